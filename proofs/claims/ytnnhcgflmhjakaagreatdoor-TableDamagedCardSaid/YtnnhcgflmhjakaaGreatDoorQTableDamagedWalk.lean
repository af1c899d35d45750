/-
  The walk of TableDamaged (genTD.py).
-/
import Derived.Test.YtnnhcgflmhjakaaGreatDoorQDamEnv
import Derived.Test.YtnnhcgflmhjakaaGreatDoorPkL
set_option linter.unusedSimpArgs false
set_option linter.unusedVariables false
namespace Go.Proofs.YtnnhcgflmhjakaaGreatDoor
open Go Go.RowKit
set_option linter.unusedVariables false

theorem conv_one (W : World) (g : Nat) (z : Int) (h : W.cell? ⟨g, 0, none⟩ = some (.int .u8 z)) :
    (convert 32 9 (.slice (some ⟨g, 0, none⟩) 1 1)).run Tryz.prog W = .ok (.string (strOfNums [z])) W := by
  refine run_convert_bytes_arg _ _ _ Tryz.underlying32 Tryz.underlying5 g 0 1 1 [z] rfl ?_ _ Tryz.underlying9
  intro i hi
  obtain rfl : i = 0 := by omega
  exact h

theorem BoxF.all {w : World} {g : Nat} {f : Nat → Value} (h : BoxF w g f) : (w.cell? ⟨g, 0, none⟩ = some (f 0) ∧ w.cell? ⟨g, 1, none⟩ = some (f 1) ∧ w.cell? ⟨g, 2, none⟩ = some (f 2) ∧ w.cell? ⟨g, 3, none⟩ = some (f 3) ∧ w.cell? ⟨g, 4, none⟩ = some (f 4) ∧ w.cell? ⟨g, 5, none⟩ = some (f 5) ∧ w.cell? ⟨g, 6, none⟩ = some (f 6) ∧ w.cell? ⟨g, 7, none⟩ = some (f 7) ∧ w.cell? ⟨g, 8, none⟩ = some (f 8) ∧ w.cell? ⟨g, 9, none⟩ = some (f 9) ∧ w.cell? ⟨g, 10, none⟩ = some (f 10) ∧ w.cell? ⟨g, 11, none⟩ = some (f 11)) ∧ (w.frozen? ⟨g, 0, none⟩ = false ∧ w.frozen? ⟨g, 1, none⟩ = false ∧ w.frozen? ⟨g, 2, none⟩ = false ∧ w.frozen? ⟨g, 3, none⟩ = false ∧ w.frozen? ⟨g, 4, none⟩ = false ∧ w.frozen? ⟨g, 5, none⟩ = false ∧ w.frozen? ⟨g, 6, none⟩ = false ∧ w.frozen? ⟨g, 7, none⟩ = false ∧ w.frozen? ⟨g, 8, none⟩ = false ∧ w.frozen? ⟨g, 9, none⟩ = false ∧ w.frozen? ⟨g, 10, none⟩ = false ∧ w.frozen? ⟨g, 11, none⟩ = false) :=
  ⟨⟨(h 0 (by omega)).1, (h 1 (by omega)).1, (h 2 (by omega)).1, (h 3 (by omega)).1, (h 4 (by omega)).1, (h 5 (by omega)).1, (h 6 (by omega)).1, (h 7 (by omega)).1, (h 8 (by omega)).1, (h 9 (by omega)).1, (h 10 (by omega)).1, (h 11 (by omega)).1⟩, ⟨(h 0 (by omega)).2, (h 1 (by omega)).2, (h 2 (by omega)).2, (h 3 (by omega)).2, (h 4 (by omega)).2, (h 5 (by omega)).2, (h 6 (by omega)).2, (h 7 (by omega)).2, (h 8 (by omega)).2, (h 9 (by omega)).2, (h 10 (by omega)).2, (h 11 (by omega)).2⟩⟩

theorem show_d : False ∨ True := .inr trivial

set_option maxRecDepth 100000 in
set_option maxHeartbeats 8000000 in
theorem tableDamaged_walk (p : Option Addr) (cap : Nat) (zs : List Int) (at' v : Int) (w : World) (hin : IntsIn w p zs) (hl : zs.length ≤ 17592186043904) (hr : Rsv w) :
    Calls Tryz.prog 4 #[.slice p zs.length cap, .int .i64 at', .int .i64 v] w (Gives (.bool true) w) := by
  have HI := Lib.hid hin
  have HL := Lib.hid hl
  have HR := Lib.hid hr
  clear hin hl hr
  go_enter Tryz.func4, Tryz.ntmps4
  go_wp2_with fail
  refine (tables_any p cap zs _ HI.out HL.out).mono ?_
  rintro e w1 ⟨⟨a0, a1, a2, a3, a4, a5, a6, a7, a8, a9, a10, a11⟩, T, rfl, htv, hm, hcap1, hb1⟩
  obtain ⟨pa0, na0, qa0, hsl0⟩ : Slc a0 := htv.cat.slc
  subst hsl0
  obtain ⟨pa1, na1, qa1, hsl1⟩ : Slc a1 := htv.cls.slc
  subst hsl1
  obtain ⟨pa2, na2, qa2, hsl2⟩ : Slc a2 := htv.joi.slc
  subst hsl2
  obtain ⟨pa3, na3, qa3, hsl3⟩ : Slc a3 := htv.bid.slc
  subst hsl3
  obtain ⟨pa4, na4, qa4, hsl4⟩ : Slc a4 := htv.scr.slc
  subst hsl4
  obtain ⟨pa5, na5, qa5, hsl5⟩ : Slc a5 := htv.sta.slc
  subst hsl5
  obtain ⟨pa6, na6, qa6, hsl6⟩ : Slc a6 := htv.ign.slc
  subst hsl6
  obtain ⟨pa7, na7, qa7, hsl7⟩ : Slc a7 := htv.ext.slc
  subst hsl7
  obtain ⟨pa8, na8, qa8, hsl8⟩ : Slc a8 := htv.map.slc
  subst hsl8
  obtain ⟨pa9, na9, qa9, hsl9⟩ : Slc a9 := htv.dec.slc
  subst hsl9
  obtain ⟨pa10, na10, qa10, hsl10⟩ : Slc a10 := htv.exc.slc
  subst hsl10
  obtain ⟨pa11, na11, qa11, hsl11⟩ : Slc a11 := htv.pro.slc
  subst hsl11
  have hba1 : Below w1.heap.size w1 (w1.alloc (.cells (tabCells ⟨.slice pa0 na0 qa0, .slice pa1 na1 qa1, .slice pa2 na2 qa2, .slice pa3 na3 qa3, .slice pa4 na4 qa4, .slice pa5 na5 qa5, .slice pa6 na6 qa6, .slice pa7 na7 qa7, .slice pa8 na8 qa8, .slice pa9 na9 qa9, .slice pa10 na10 qa10, .slice pa11 na11 qa11⟩) 29)) := (Below.refl _ _).alloc (Nat.le_refl _) _
  have HT1 : Hid (TabV (w1.alloc (.cells (tabCells ⟨.slice pa0 na0 qa0, .slice pa1 na1 qa1, .slice pa2 na2 qa2, .slice pa3 na3 qa3, .slice pa4 na4 qa4, .slice pa5 na5 qa5, .slice pa6 na6 qa6, .slice pa7 na7 qa7, .slice pa8 na8 qa8, .slice pa9 na9 qa9, .slice pa10 na10 qa10, .slice pa11 na11 qa11⟩) 29)) ⟨.slice pa0 na0 qa0, .slice pa1 na1 qa1, .slice pa2 na2 qa2, .slice pa3 na3 qa3, .slice pa4 na4 qa4, .slice pa5 na5 qa5, .slice pa6 na6 qa6, .slice pa7 na7 qa7, .slice pa8 na8 qa8, .slice pa9 na9 qa9, .slice pa10 na10 qa10, .slice pa11 na11 qa11⟩ T) := htv.below hba1
  have HX1 : Hid (BoxT (w1.alloc (.cells (tabCells ⟨.slice pa0 na0 qa0, .slice pa1 na1 qa1, .slice pa2 na2 qa2, .slice pa3 na3 qa3, .slice pa4 na4 qa4, .slice pa5 na5 qa5, .slice pa6 na6 qa6, .slice pa7 na7 qa7, .slice pa8 na8 qa8, .slice pa9 na9 qa9, .slice pa10 na10 qa10, .slice pa11 na11 qa11⟩) 29)) w1.heap.size ⟨.slice pa0 na0 qa0, .slice pa1 na1 qa1, .slice pa2 na2 qa2, .slice pa3 na3 qa3, .slice pa4 na4 qa4, .slice pa5 na5 qa5, .slice pa6 na6 qa6, .slice pa7 na7 qa7, .slice pa8 na8 qa8, .slice pa9 na9 qa9, .slice pa10 na10 qa10, .slice pa11 na11 qa11⟩) := BoxT.new _ _ _
  have HB1 : Hid (Below w.heap.size w (w1.alloc (.cells (tabCells ⟨.slice pa0 na0 qa0, .slice pa1 na1 qa1, .slice pa2 na2 qa2, .slice pa3 na3 qa3, .slice pa4 na4 qa4, .slice pa5 na5 qa5, .slice pa6 na6 qa6, .slice pa7 na7 qa7, .slice pa8 na8 qa8, .slice pa9 na9 qa9, .slice pa10 na10 qa10, .slice pa11 na11 qa11⟩) 29))) := hb1.trans (hba1.mono hb1.size)
  have HM := Lib.hid hm
  have HCAP : Hid (CapD ⟨.slice pa0 na0 qa0, .slice pa1 na1 qa1, .slice pa2 na2 qa2, .slice pa3 na3 qa3, .slice pa4 na4 qa4, .slice pa5 na5 qa5, .slice pa6 na6 qa6, .slice pa7 na7 qa7, .slice pa8 na8 qa8, .slice pa9 na9 qa9, .slice pa10 na10 qa10, .slice pa11 na11 qa11⟩) := hcap1
  clear htv hm hcap1 hb1 hba1
  simp only [tabCells] at HT1 HX1 HB1
  go_upto_region 2 with (fail)
  generalize (w1.alloc (.cells #[.slice pa0 na0 qa0, .slice pa1 na1 qa1, .slice pa2 na2 qa2, .slice pa3 na3 qa3, .slice pa4 na4 qa4, .slice pa5 na5 qa5, .slice pa6 na6 qa6, .slice pa7 na7 qa7, .slice pa8 na8 qa8, .slice pa9 na9 qa9, .slice pa10 na10 qa10, .slice pa11 na11 qa11] 29)) = W at HT1 HX1 HB1 ⊢
  generalize w1.heap.size = g at HX1 ⊢
  generalize (⟨.slice pa0 na0 qa0, .slice pa1 na1 qa1, .slice pa2 na2 qa2, .slice pa3 na3 qa3, .slice pa4 na4 qa4, .slice pa5 na5 qa5, .slice pa6 na6 qa6, .slice pa7 na7 qa7, .slice pa8 na8 qa8, .slice pa9 na9 qa9, .slice pa10 na10 qa10, .slice pa11 na11 qa11⟩ : TV) = x at HT1 HX1 HCAP
  have HE : Hid (DEnv w g x T W) := ⟨HT1.out, HX1.out, HB1.out⟩
  clear HT1 HX1 HB1
  obtain ⟨X, hX, hXs⟩ := made_fits HM.out
  have HEX := Lib.hid hX
  have HDX := Lib.hid (dec_enc HM.out.check hX)
  obtain ⟨n, hn⟩ : ∃ n, X.size = n := ⟨_, rfl⟩
  rw [hn] at hXs
  have hn1 : 1 ≤ n := by
    have h1 := dec_uni HDX.out
    have h2 := congrArg ByteArray.size h1
    rw [ByteArray.size_append] at h2
    have h3 := (putB_size (sumS (rowsB T))).1
    omega
  obtain ⟨k, HK, hk⟩ := pickD_nm at' n hn1
  obtain ⟨z, HZ, hz⟩ := pickD_nm v 256 (by omega)
  have HN := Lib.hid hn
  clear hX hn
  obtain ⟨⟨k0, k1, k2, k3, k4, k5⟩, ⟨k6, k7, k8, k9, k10, k11⟩⟩ := HE.out.box.load
  go_wp2_with fail
  refine (rencode_any x T X 0 _ HE.out.tab HCAP.out HEX).mono ?_
  rintro e w2 ⟨rfl, hb2⟩
  replace HE := Lib.hid (HE.out.step hb2)
  clear hb2 k0 k1 k2 k3 k4 k5 k6 k7 k8 k9 k10 k11
  have hnX : (X.size : Int) = (n : Int) := by rw [HN.out]
  go_wp2_with fail
  refine (pickD_at at' n k _ (by omega) (by omega) HK).mono ?_
  rintro e w3 ⟨rfl, rfl⟩
  go_wp2_with fail
  refine (pickD_at v 256 z _ (by omega) (by omega) HZ).mono ?_
  rintro e w3 ⟨rfl, rfl⟩
  have hzw : IntKind.u8.wrap (z : Int) = (z : Int) := by
    have : IntKind.u8.wrap (z : Int) = (z : Int) % 256 := rfl
    omega
  have hk1 : IntKind.i64.wrap ((k : Int) + 1) = ((k + 1 : Nat) : Int) := by rw [IntWalk.i64_in _ (by omega)]; omega
  have hk2 : (k : Int) ≤ (n : Int) := by omega
  have hk3 : ((k + 1 : Nat) : Int) ≤ (n : Int) := by omega
  have hcv := conv_one (w2.alloc (.cells #[.int .u8 z] 5)).drew w2.heap.size z (World.cell?_alloc_new _ _ _ _)
  obtain ⟨Y, hY⟩ : ∃ Y, damB X k z = Y := ⟨_, rfl⟩
  have hYs : Y.size = n := by rw [← hY, dam_size (by rw [HN.out]; exact hk) hz]; exact HN.out
  have hYe : X.extract 0 k ++ strOfNums [(z : Int)] ++ X.extract (k + 1) X.size = Y := hY
  have hsz := congrArg ByteArray.size hYe
  rw [ByteArray.size_append, ByteArray.size_append, hYs] at hsz
  obtain ⟨S1, hS1⟩ : ∃ S, X.extract 0 k ++ strOfNums [(z : Int)] = S := ⟨_, rfl⟩
  have hs1 : ∀ w, (Op.stringOp .add (X.extract 0 k) (strOfNums [(z : Int)])).run Tryz.prog w = .ok (.string S1) w := fun w => by
    rw [run_string_add_sum w _ _ (by omega), hS1]
  have hs2 : ∀ w, (Op.stringOp .add S1 (X.extract (k + 1) X.size)).run Tryz.prog w = .ok (.string Y) w := fun w => by
    rw [run_string_add_sum w _ _ (by rw [← hS1, ByteArray.size_append]; omega), ← hS1, hYe]
  have HY := Lib.hid hY
  have HYS := Lib.hid hYs
  clear hY hYe hsz hS1 hYs
  obtain ⟨U, er, hdec⟩ : ∃ U er, Hid (decT Y = (U, er)) := ⟨_, _, rfl⟩
  have HYM : Hid (Y.size ≤ maxLen) := by unfold Hid; rw [HYS.out]; unfold maxLen; omega
  go_upto_region 5 with (fail)
  go_cut [12, 13] (fun c r wx => ∃ (g2 : Nat) (y : TV), c = .pointer (some ⟨g2, 0, none⟩) ∧ r = .int .i64 er ∧ Hid (DEnv w g x T wx) ∧ Hid (BoxT wx g2 y) ∧ Hid (TabV wx y U))
  case first =>
    have hA : Below w2.heap.size w2 (w2.alloc (.cells #[.int .u8 z] 5)).drew := ((Below.refl _ _).alloc (Nat.le_refl _) _).trans ((drew_one _).mono (by simp))
    have hB : Below w2.heap.size w2 ((w2.alloc (.cells #[.int .u8 z] 5)).alloc (.cells nilC 29)).drew := (((Below.refl _ _).alloc (Nat.le_refl _) _).alloc (by simp) _).trans ((drew_one _).mono (by simp; omega))
    have hC : Below w2.heap.size w2 ((w2.alloc (.cells nilC 29)).alloc (.cells #[.int .u8 z] 5)).drew := (((Below.refl _ _).alloc (Nat.le_refl _) _).alloc (by simp) _).trans ((drew_one _).mono (by simp; omega))
    have hBF : BoxF ((w2.alloc (.cells #[.int .u8 z] 5)).alloc (.cells nilC 29)).drew (w2.heap.size + 1) (fun _ => .slice none 0 0) := by
      have := (BoxF.new (w2.alloc (.cells #[.int .u8 z] 5)) 29).below (drew_one _)
      simpa using this
    have hCF : BoxF ((w2.alloc (.cells nilC 29)).alloc (.cells #[.int .u8 z] 5)).drew w2.heap.size (fun _ => .slice none 0 0) :=
      ((BoxF.new w2 29).below ((Below.refl _ _).alloc (Nat.le_refl _) (.cells #[.int .u8 z] 5))).below (drew_one _)
    have HA := Lib.hid hA
    have HB := Lib.hid hB
    have HC := Lib.hid hC
    have HBF := Lib.hid hBF
    have HCF := Lib.hid hCF
    have hcv3 := conv_one ((w2.alloc (.cells nilC 29)).alloc (.cells #[.int .u8 z] 5)).drew (w2.heap.size + 1) z (by
      have : (w2.alloc (.cells nilC 29)).heap.size = w2.heap.size + 1 := by simp
      rw [← this]; exact World.cell?_alloc_new _ _ _ _)
    have hcv2 := conv_one ((w2.alloc (.cells #[.int .u8 z] 5)).alloc (.cells nilC 29)).drew w2.heap.size z (by
      exact ((Below.refl _ _).alloc (Nat.le_refl _) (.cells nilC 29)).cell (p := ⟨w2.heap.size, 0, none⟩) (by simp) |>.trans (World.cell?_alloc_new _ _ _ _))
    simp only [nilC] at hcv2 hcv3
    clear hA hB hC hBF hCF
    go_region_with (first
      | (go_at_call 15
         (with_reducible refine (decode_t Y U er (w2.alloc (.cells #[.int .u8 z] 5)).drew HYM.out (HR.out.below (HE.out.step HA.out).bel) hdec).mono ?_)
         rintro e w5 ⟨⟨a0, a1, a2, a3, a4, a5, a6, a7, a8, a9, a10, a11⟩, rfl, htv, hb5⟩
         have hbz := HA.out.trans (hb5.mono HA.out.size)
         have htv5 := htv w5 (Keeps.refl _ _)
         obtain ⟨pb0, nb0, qb0, hsl0⟩ : Slc a0 := htv5.cat.slc
         subst hsl0
         obtain ⟨pb1, nb1, qb1, hsl1⟩ : Slc a1 := htv5.cls.slc
         subst hsl1
         obtain ⟨pb2, nb2, qb2, hsl2⟩ : Slc a2 := htv5.joi.slc
         subst hsl2
         obtain ⟨pb3, nb3, qb3, hsl3⟩ : Slc a3 := htv5.bid.slc
         subst hsl3
         obtain ⟨pb4, nb4, qb4, hsl4⟩ : Slc a4 := htv5.scr.slc
         subst hsl4
         obtain ⟨pb5, nb5, qb5, hsl5⟩ : Slc a5 := htv5.sta.slc
         subst hsl5
         obtain ⟨pb6, nb6, qb6, hsl6⟩ : Slc a6 := htv5.ign.slc
         subst hsl6
         obtain ⟨pb7, nb7, qb7, hsl7⟩ : Slc a7 := htv5.ext.slc
         subst hsl7
         obtain ⟨pb8, nb8, qb8, hsl8⟩ : Slc a8 := htv5.map.slc
         subst hsl8
         obtain ⟨pb9, nb9, qb9, hsl9⟩ : Slc a9 := htv5.dec.slc
         subst hsl9
         obtain ⟨pb10, nb10, qb10, hsl10⟩ : Slc a10 := htv5.exc.slc
         subst hsl10
         obtain ⟨pb11, nb11, qb11, hsl11⟩ : Slc a11 := htv5.pro.slc
         subst hsl11
         have q0 : True := trivial)
      | (go_at_call 15
         (with_reducible refine (decode_t Y U er ((w2.alloc (.cells #[.int .u8 z] 5)).alloc (.cells nilC 29)).drew HYM.out (HR.out.below (HE.out.step HB.out).bel) hdec).mono ?_)
         rintro e w5 ⟨⟨a0, a1, a2, a3, a4, a5, a6, a7, a8, a9, a10, a11⟩, rfl, htv, hb5⟩
         have hbz := HB.out.trans (hb5.mono HB.out.size)
         have htv5 := htv w5 (Keeps.refl _ _)
         have hbf := HBF.out.below hb5
         obtain ⟨⟨m0, m1, m2, m3, m4, m5, m6, m7, m8, m9, m10, m11⟩, ⟨n0, n1, n2, n3, n4, n5, n6, n7, n8, n9, n10, n11⟩⟩ := hbf.all
         obtain ⟨pb0, nb0, qb0, hsl0⟩ : Slc a0 := htv5.cat.slc
         subst hsl0
         obtain ⟨pb1, nb1, qb1, hsl1⟩ : Slc a1 := htv5.cls.slc
         subst hsl1
         obtain ⟨pb2, nb2, qb2, hsl2⟩ : Slc a2 := htv5.joi.slc
         subst hsl2
         obtain ⟨pb3, nb3, qb3, hsl3⟩ : Slc a3 := htv5.bid.slc
         subst hsl3
         obtain ⟨pb4, nb4, qb4, hsl4⟩ : Slc a4 := htv5.scr.slc
         subst hsl4
         obtain ⟨pb5, nb5, qb5, hsl5⟩ : Slc a5 := htv5.sta.slc
         subst hsl5
         obtain ⟨pb6, nb6, qb6, hsl6⟩ : Slc a6 := htv5.ign.slc
         subst hsl6
         obtain ⟨pb7, nb7, qb7, hsl7⟩ : Slc a7 := htv5.ext.slc
         subst hsl7
         obtain ⟨pb8, nb8, qb8, hsl8⟩ : Slc a8 := htv5.map.slc
         subst hsl8
         obtain ⟨pb9, nb9, qb9, hsl9⟩ : Slc a9 := htv5.dec.slc
         subst hsl9
         obtain ⟨pb10, nb10, qb10, hsl10⟩ : Slc a10 := htv5.exc.slc
         subst hsl10
         obtain ⟨pb11, nb11, qb11, hsl11⟩ : Slc a11 := htv5.pro.slc
         subst hsl11
         have q0 : True := trivial)
      | (go_at_call 15
         (with_reducible refine (decode_t Y U er ((w2.alloc (.cells nilC 29)).alloc (.cells #[.int .u8 z] 5)).drew HYM.out (HR.out.below (HE.out.step HC.out).bel) hdec).mono ?_)
         rintro e w5 ⟨⟨a0, a1, a2, a3, a4, a5, a6, a7, a8, a9, a10, a11⟩, rfl, htv, hb5⟩
         have hbz := HC.out.trans (hb5.mono HC.out.size)
         have htv5 := htv w5 (Keeps.refl _ _)
         have hbf := HCF.out.below hb5
         obtain ⟨⟨m0, m1, m2, m3, m4, m5, m6, m7, m8, m9, m10, m11⟩, ⟨n0, n1, n2, n3, n4, n5, n6, n7, n8, n9, n10, n11⟩⟩ := hbf.all
         obtain ⟨pb0, nb0, qb0, hsl0⟩ : Slc a0 := htv5.cat.slc
         subst hsl0
         obtain ⟨pb1, nb1, qb1, hsl1⟩ : Slc a1 := htv5.cls.slc
         subst hsl1
         obtain ⟨pb2, nb2, qb2, hsl2⟩ : Slc a2 := htv5.joi.slc
         subst hsl2
         obtain ⟨pb3, nb3, qb3, hsl3⟩ : Slc a3 := htv5.bid.slc
         subst hsl3
         obtain ⟨pb4, nb4, qb4, hsl4⟩ : Slc a4 := htv5.scr.slc
         subst hsl4
         obtain ⟨pb5, nb5, qb5, hsl5⟩ : Slc a5 := htv5.sta.slc
         subst hsl5
         obtain ⟨pb6, nb6, qb6, hsl6⟩ : Slc a6 := htv5.ign.slc
         subst hsl6
         obtain ⟨pb7, nb7, qb7, hsl7⟩ : Slc a7 := htv5.ext.slc
         subst hsl7
         obtain ⟨pb8, nb8, qb8, hsl8⟩ : Slc a8 := htv5.map.slc
         subst hsl8
         obtain ⟨pb9, nb9, qb9, hsl9⟩ : Slc a9 := htv5.dec.slc
         subst hsl9
         obtain ⟨pb10, nb10, qb10, hsl10⟩ : Slc a10 := htv5.exc.slc
         subst hsl10
         obtain ⟨pb11, nb11, qb11, hsl11⟩ : Slc a11 := htv5.pro.slc
         subst hsl11
         have q0 : True := trivial)
      | fail)
    all_goals (first
      | (have hst := store12 w5 (w2.heap.size + 1) (.slice pb0 nb0 qb0) (.slice pb1 nb1 qb1) (.slice pb2 nb2 qb2) (.slice pb3 nb3 qb3) (.slice pb4 nb4 qb4) (.slice pb5 nb5 qb5) (.slice pb6 nb6 qb6) (.slice pb7 nb7 qb7) (.slice pb8 nb8 qb8) (.slice pb9 nb9 qb9) (.slice pb10 nb10 qb10) (.slice pb11 nb11 qb11) hbf
         have hHE : DEnv w g x T _ := HE.out.step (hbz.trans (hst.2.below (B := w2.heap.size) hbz.size (fun k _ (e : k = w2.heap.size + 1) => by omega)))
         have hTV := htv _ (hst.2.weak (fun k _ (e : k = w2.heap.size + 1) => by subst e; simp <;> omega))
         generalize (World.setCell (World.setCell (World.setCell (World.setCell (World.setCell (World.setCell (World.setCell (World.setCell (World.setCell (World.setCell (World.setCell (World.setCell w5 ⟨w2.heap.size + 1, 0, none⟩ (.slice pb0 nb0 qb0)) ⟨w2.heap.size + 1, 1, none⟩ (.slice pb1 nb1 qb1)) ⟨w2.heap.size + 1, 2, none⟩ (.slice pb2 nb2 qb2)) ⟨w2.heap.size + 1, 3, none⟩ (.slice pb3 nb3 qb3)) ⟨w2.heap.size + 1, 4, none⟩ (.slice pb4 nb4 qb4)) ⟨w2.heap.size + 1, 5, none⟩ (.slice pb5 nb5 qb5)) ⟨w2.heap.size + 1, 6, none⟩ (.slice pb6 nb6 qb6)) ⟨w2.heap.size + 1, 7, none⟩ (.slice pb7 nb7 qb7)) ⟨w2.heap.size + 1, 8, none⟩ (.slice pb8 nb8 qb8)) ⟨w2.heap.size + 1, 9, none⟩ (.slice pb9 nb9 qb9)) ⟨w2.heap.size + 1, 10, none⟩ (.slice pb10 nb10 qb10)) ⟨w2.heap.size + 1, 11, none⟩ (.slice pb11 nb11 qb11)) = WF at hst hHE hTV ⊢
         try (go_wp2_with fail)
         go_meet
         exact ⟨w2.heap.size + 1, ⟨.slice pb0 nb0 qb0, .slice pb1 nb1 qb1, .slice pb2 nb2 qb2, .slice pb3 nb3 qb3, .slice pb4 nb4 qb4, .slice pb5 nb5 qb5, .slice pb6 nb6 qb6, .slice pb7 nb7 qb7, .slice pb8 nb8 qb8, .slice pb9 nb9 qb9, .slice pb10 nb10 qb10, .slice pb11 nb11 qb11⟩, rfl, rfl, Lib.hid hHE, Lib.hid hst.1, Lib.hid hTV⟩)
      | (have hst := store12 w5 w2.heap.size (.slice pb0 nb0 qb0) (.slice pb1 nb1 qb1) (.slice pb2 nb2 qb2) (.slice pb3 nb3 qb3) (.slice pb4 nb4 qb4) (.slice pb5 nb5 qb5) (.slice pb6 nb6 qb6) (.slice pb7 nb7 qb7) (.slice pb8 nb8 qb8) (.slice pb9 nb9 qb9) (.slice pb10 nb10 qb10) (.slice pb11 nb11 qb11) hbf
         have hHE : DEnv w g x T _ := HE.out.step (hbz.trans (hst.2.below (B := w2.heap.size) hbz.size (fun k _ (e : k = w2.heap.size) => by omega)))
         have hTV := htv _ (hst.2.weak (fun k _ (e : k = w2.heap.size) => by subst e; simp <;> omega))
         generalize (World.setCell (World.setCell (World.setCell (World.setCell (World.setCell (World.setCell (World.setCell (World.setCell (World.setCell (World.setCell (World.setCell (World.setCell w5 ⟨w2.heap.size, 0, none⟩ (.slice pb0 nb0 qb0)) ⟨w2.heap.size, 1, none⟩ (.slice pb1 nb1 qb1)) ⟨w2.heap.size, 2, none⟩ (.slice pb2 nb2 qb2)) ⟨w2.heap.size, 3, none⟩ (.slice pb3 nb3 qb3)) ⟨w2.heap.size, 4, none⟩ (.slice pb4 nb4 qb4)) ⟨w2.heap.size, 5, none⟩ (.slice pb5 nb5 qb5)) ⟨w2.heap.size, 6, none⟩ (.slice pb6 nb6 qb6)) ⟨w2.heap.size, 7, none⟩ (.slice pb7 nb7 qb7)) ⟨w2.heap.size, 8, none⟩ (.slice pb8 nb8 qb8)) ⟨w2.heap.size, 9, none⟩ (.slice pb9 nb9 qb9)) ⟨w2.heap.size, 10, none⟩ (.slice pb10 nb10 qb10)) ⟨w2.heap.size, 11, none⟩ (.slice pb11 nb11 qb11)) = WF at hst hHE hTV ⊢
         try (go_wp2_with fail)
         go_meet
         exact ⟨w2.heap.size, ⟨.slice pb0 nb0 qb0, .slice pb1 nb1 qb1, .slice pb2 nb2 qb2, .slice pb3 nb3 qb3, .slice pb4 nb4 qb4, .slice pb5 nb5 qb5, .slice pb6 nb6 qb6, .slice pb7 nb7 qb7, .slice pb8 nb8 qb8, .slice pb9 nb9 qb9, .slice pb10 nb10 qb10, .slice pb11 nb11 qb11⟩, rfl, rfl, Lib.hid hHE, Lib.hid hst.1, Lib.hid hTV⟩)
      | (have hHE : DEnv w g x T (w5.alloc (.cells #[.slice pb0 nb0 qb0, .slice pb1 nb1 qb1, .slice pb2 nb2 qb2, .slice pb3 nb3 qb3, .slice pb4 nb4 qb4, .slice pb5 nb5 qb5, .slice pb6 nb6 qb6, .slice pb7 nb7 qb7, .slice pb8 nb8 qb8, .slice pb9 nb9 qb9, .slice pb10 nb10 qb10, .slice pb11 nb11 qb11] 29)) := HE.out.step (hbz.trans (((Below.refl _ _).alloc (Nat.le_refl _) _).mono hbz.size))
         have hTV : TabV (w5.alloc (.cells #[.slice pb0 nb0 qb0, .slice pb1 nb1 qb1, .slice pb2 nb2 qb2, .slice pb3 nb3 qb3, .slice pb4 nb4 qb4, .slice pb5 nb5 qb5, .slice pb6 nb6 qb6, .slice pb7 nb7 qb7, .slice pb8 nb8 qb8, .slice pb9 nb9 qb9, .slice pb10 nb10 qb10, .slice pb11 nb11 qb11] 29)) _ U := htv5.below ((Below.refl _ _).alloc (Nat.le_refl _) _)
         have hBX : BoxT (w5.alloc (.cells #[.slice pb0 nb0 qb0, .slice pb1 nb1 qb1, .slice pb2 nb2 qb2, .slice pb3 nb3 qb3, .slice pb4 nb4 qb4, .slice pb5 nb5 qb5, .slice pb6 nb6 qb6, .slice pb7 nb7 qb7, .slice pb8 nb8 qb8, .slice pb9 nb9 qb9, .slice pb10 nb10 qb10, .slice pb11 nb11 qb11] 29)) w5.heap.size ⟨.slice pb0 nb0 qb0, .slice pb1 nb1 qb1, .slice pb2 nb2 qb2, .slice pb3 nb3 qb3, .slice pb4 nb4 qb4, .slice pb5 nb5 qb5, .slice pb6 nb6 qb6, .slice pb7 nb7 qb7, .slice pb8 nb8 qb8, .slice pb9 nb9 qb9, .slice pb10 nb10 qb10, .slice pb11 nb11 qb11⟩ := BoxT.new w5 ⟨.slice pb0 nb0 qb0, .slice pb1 nb1 qb1, .slice pb2 nb2 qb2, .slice pb3 nb3 qb3, .slice pb4 nb4 qb4, .slice pb5 nb5 qb5, .slice pb6 nb6 qb6, .slice pb7 nb7 qb7, .slice pb8 nb8 qb8, .slice pb9 nb9 qb9, .slice pb10 nb10 qb10, .slice pb11 nb11 qb11⟩ 29
         generalize (w5.alloc (.cells #[.slice pb0 nb0 qb0, .slice pb1 nb1 qb1, .slice pb2 nb2 qb2, .slice pb3 nb3 qb3, .slice pb4 nb4 qb4, .slice pb5 nb5 qb5, .slice pb6 nb6 qb6, .slice pb7 nb7 qb7, .slice pb8 nb8 qb8, .slice pb9 nb9 qb9, .slice pb10 nb10 qb10, .slice pb11 nb11 qb11] 29)) = WF at hHE hTV hBX ⊢
         try (go_wp2_with fail)
         go_meet
         exact ⟨w5.heap.size, ⟨.slice pb0 nb0 qb0, .slice pb1 nb1 qb1, .slice pb2 nb2 qb2, .slice pb3 nb3 qb3, .slice pb4 nb4 qb4, .slice pb5 nb5 qb5, .slice pb6 nb6 qb6, .slice pb7 nb7 qb7, .slice pb8 nb8 qb8, .slice pb9 nb9 qb9, .slice pb10 nb10 qb10, .slice pb11 nb11 qb11⟩, rfl, rfl, Lib.hid hHE, Lib.hid hBX, Lib.hid hTV⟩)
      | fail)
  case rest =>
    obtain ⟨g2, y, rfl, rfl, HE2, HB2, HT2⟩ := hcut
    generalize wc = W3 at HE2 HB2 HT2 ⊢
    clear hs1 hs2 hcv hzw hk1 hk2 hk3 HE
    have hkX : k < X.size := by rw [HN.out]; exact hk
    obtain ⟨b, hb⟩ : ∃ b : Int, (X[k].toNat : Int) = b := ⟨_, rfl⟩
    have HG : Hid ((nums X).getD k 0 = b) := by
      have h1 := nums_drop X k hkX
      rw [hb] at h1
      have h2 : ((nums X).drop k).getD 0 0 = b := by rw [h1]; rfl
      unfold Hid
      rw [← h2]
      simp [List.getD_eq_getElem?_getD]
    by_cases hzb : b = (z : Int)
    · have hYX : Y = X := by rw [← HY.out]; exact dam_same hkX hz (HG.out.trans hzb)
      have hd := HDX.out
      rw [← hYX, hdec.out] at hd
      injection hd with hU her
      subst her
      have HU := Lib.hid hU
      have hz1 : ((z : Int) == b) = true := by simp [hzb]
      clear hYX hU hzb
      go_wp2_with fail
      refine (awake_any _ (HR.out.below HE2.out.bel)).mono ?_
      rintro e w4 ⟨rfl, hb4⟩
      replace HE2 := Lib.hid (HE2.out.step hb4)
      replace HB2 := Lib.hid (HB2.out.below hb4)
      replace HT2 := Lib.hid (HT2.out.below hb4)
      clear hb4
      obtain ⟨⟨k0, k1, k2, k3, k4, k5⟩, ⟨k6, k7, k8, k9, k10, k11⟩⟩ := HE2.out.box.load
      obtain ⟨⟨l0, l1, l2, l3, l4, l5⟩, ⟨l6, l7, l8, l9, l10, l11⟩⟩ := HB2.out.load
      go_wp2_with fail
      refine (sameTables_any y x U T _ HT2.out HE2.out.tab).mono ?_
      rintro e w5 ⟨B, rfl, hB, hb5⟩
      replace HE2 := Lib.hid (HE2.out.step hb5)
      clear hb5 k0 k1 k2 k3 k4 k5 k6 k7 k8 k9 k10 k11 l0 l1 l2 l3 l4 l5 l6 l7 l8 l9 l10 l11
      have hBt : B = true := hB.2 HU.out
      clear hB
      subst hBt
      go_wp2_with fail
      go_ret
      exact ⟨rfl, HE2.out.bel⟩
    · have hz1 : ((z : Int) == b) = false := by simp; omega
      go_wp2_with fail
      refine (awake_any _ (HR.out.below HE2.out.bel)).mono ?_
      rintro e w4 ⟨rfl, hb4⟩
      replace HE2 := Lib.hid (HE2.out.step hb4)
      replace HB2 := Lib.hid (HB2.out.below hb4)
      replace HT2 := Lib.hid (HT2.out.below hb4)
      clear hb4
      by_cases her : er = 0
      · subst her
        have HU : Hid (U ≠ T) := dam_dec HEX.out HM.out.check hkX hz (by rw [HG.out]; exact hzb) (by rw [← hdec.out]; exact congrArg decT HY.out)
        clear hzb
        obtain ⟨⟨k0, k1, k2, k3, k4, k5⟩, ⟨k6, k7, k8, k9, k10, k11⟩⟩ := HE2.out.box.load
        obtain ⟨⟨l0, l1, l2, l3, l4, l5⟩, ⟨l6, l7, l8, l9, l10, l11⟩⟩ := HB2.out.load
        go_wp2_with fail
        refine (sameTables_any y x U T _ HT2.out HE2.out.tab).mono ?_
        rintro e w5 ⟨B, rfl, hB, hb5⟩
        replace HE2 := Lib.hid (HE2.out.step hb5)
        clear hb5 k0 k1 k2 k3 k4 k5 k6 k7 k8 k9 k10 k11 l0 l1 l2 l3 l4 l5 l6 l7 l8 l9 l10 l11
        cases B
        · clear hB
          go_wp2_with fail
          go_ret
          exact ⟨rfl, HE2.out.bel⟩
        · exact absurd (hB.1 rfl) HU.out
      · have he1 : (er != 0) = true := by simp [her]
        clear hzb her
        go_wp2_with fail
        go_ret
        exact ⟨rfl, HE2.out.bel⟩

end Go.Proofs.YtnnhcgflmhjakaaGreatDoor
