/-
  The walk of OrderNeighbours (genON.py).
-/
import Derived.Test.YtnnhcgflmhjakaaDoorPkS
import Derived.BigRegion
set_option linter.unusedSimpArgs false
set_option linter.unusedVariables false
namespace Go.Proofs.YtnnhcgflmhjakaaDoor
open Go.RowKit
set_option linter.unusedVariables false

theorem swp_same (k : Int → Int) (l : List Int) (i : Nat) (hi : i + 1 < l.length) (ha : k (l.getD i 0) ≠ 0) (hb : k (l.getD (i + 1) 0) ≠ 0) (h0 : ∀ c, 0 ≤ k c) :
    (ordS k l == ordS k (swp l i)) = (decide (k (l.getD i 0) ≠ k (l.getD (i + 1) 0)) || decide (l.getD i 0 = l.getD (i + 1) 0)) := by
  obtain ⟨a, b, hal, e1, e2⟩ := swp_form l i hi
  rw [e2]
  have p1 := h0 (l.getD i 0)
  have p2 := h0 (l.getD (i + 1) 0)
  generalize l.getD i 0 = x at *
  generalize l.getD (i + 1) 0 = y at *
  rw [e1]
  rw [Bool.eq_iff_iff]
  simp only [beq_iff_eq, Bool.or_eq_true, decide_eq_true_eq]
  constructor
  · intro h
    by_cases hk : k x = k y
    · exact .inr (ordS_swap_ne k a b hk h)
    · exact .inl hk
  · rintro (h | h)
    · by_cases hl : k y < k x
      · exact ordS_swap k a b (by omega) hl
      · exact (ordS_swap k a b (by omega) (by omega)).symm
    · subst h; rfl

theorem swp_perm (l : List Int) (i : Nat) (hi : i + 1 < l.length) : (swp l i).Perm l := by
  obtain ⟨a, b, hal, e1, e2⟩ := swp_form l i hi
  rw [e2]
  generalize l.getD i 0 = x at *
  generalize l.getD (i + 1) 0 = y at *
  rw [e1]
  exact (List.Perm.swap _ _ _).append_left a

set_option maxRecDepth 100000 in
set_option maxHeartbeats 8000000 in
theorem orderNeighbours_walk (p : Option Addr) (cap : Nat) (zs : List Int) (q : Option Addr) (cq : Nat) (ms : List Int) (at' : Int) (w : World) (hin : IntsIn w p zs) (hl : zs.length ≤ 17592186043904) (him : IntsIn w q ms) (hml : ms.length ≤ 17592186043904) (hr : Rsv w) :
    Calls Tryd.prog 4 #[.slice p zs.length cap, .slice q ms.length cq, .int .i64 at'] w (Gives (.bool true) w) := by
  have HI := Lib.hid hin
  have HL := Lib.hid hl
  have HMI := Lib.hid him
  have HML := Lib.hid hml
  have HR := Lib.hid hr
  clear hin hl him hml hr
  go_enter Tryd.func4, Tryd.ntmps4
  go_wp2_with fail
  refine (tables_any p cap zs _ HI.out HL.out).mono ?_
  rintro e w1 ⟨⟨a0, a1, a2, a3, a4, a5, a6, a7, a8, a9, a10, a11⟩, T, rfl, htv, hm, hcap1, hb1⟩
  obtain ⟨pa0, na0, qa0, hsl0⟩ : Slc a0 := htv.cat.slc
  subst hsl0
  obtain ⟨pa1, na1, qa1, hsl1⟩ : Slc a1 := htv.cls.slc
  subst hsl1
  obtain ⟨pa2, na2, qa2, hsl2⟩ : Slc a2 := htv.joi.slc
  subst hsl2
  obtain ⟨pa3, na3, qa3, hsl3⟩ : Slc a3 := htv.bid.slc
  subst hsl3
  obtain ⟨pa4, na4, qa4, hsl4⟩ : Slc a4 := htv.scr.slc
  subst hsl4
  obtain ⟨pa5, na5, qa5, hsl5⟩ : Slc a5 := htv.sta.slc
  subst hsl5
  obtain ⟨pa6, na6, qa6, hsl6⟩ : Slc a6 := htv.ign.slc
  subst hsl6
  obtain ⟨pa7, na7, qa7, hsl7⟩ : Slc a7 := htv.ext.slc
  subst hsl7
  obtain ⟨pa8, na8, qa8, hsl8⟩ : Slc a8 := htv.map.slc
  subst hsl8
  obtain ⟨pa9, na9, qa9, hsl9⟩ : Slc a9 := htv.dec.slc
  subst hsl9
  obtain ⟨pa10, na10, qa10, hsl10⟩ : Slc a10 := htv.exc.slc
  subst hsl10
  obtain ⟨pa11, na11, qa11, hsl11⟩ : Slc a11 := htv.pro.slc
  subst hsl11
  have hba1 : Below w1.heap.size w1 (w1.alloc (.cells (tabCells ⟨.slice pa0 na0 qa0, .slice pa1 na1 qa1, .slice pa2 na2 qa2, .slice pa3 na3 qa3, .slice pa4 na4 qa4, .slice pa5 na5 qa5, .slice pa6 na6 qa6, .slice pa7 na7 qa7, .slice pa8 na8 qa8, .slice pa9 na9 qa9, .slice pa10 na10 qa10, .slice pa11 na11 qa11⟩) 26)) := (Below.refl _ _).alloc (Nat.le_refl _) _
  have HT1 : Hid (TabV (w1.alloc (.cells (tabCells ⟨.slice pa0 na0 qa0, .slice pa1 na1 qa1, .slice pa2 na2 qa2, .slice pa3 na3 qa3, .slice pa4 na4 qa4, .slice pa5 na5 qa5, .slice pa6 na6 qa6, .slice pa7 na7 qa7, .slice pa8 na8 qa8, .slice pa9 na9 qa9, .slice pa10 na10 qa10, .slice pa11 na11 qa11⟩) 26)) ⟨.slice pa0 na0 qa0, .slice pa1 na1 qa1, .slice pa2 na2 qa2, .slice pa3 na3 qa3, .slice pa4 na4 qa4, .slice pa5 na5 qa5, .slice pa6 na6 qa6, .slice pa7 na7 qa7, .slice pa8 na8 qa8, .slice pa9 na9 qa9, .slice pa10 na10 qa10, .slice pa11 na11 qa11⟩ T) := htv.below hba1
  have HX1 : Hid (BoxT (w1.alloc (.cells (tabCells ⟨.slice pa0 na0 qa0, .slice pa1 na1 qa1, .slice pa2 na2 qa2, .slice pa3 na3 qa3, .slice pa4 na4 qa4, .slice pa5 na5 qa5, .slice pa6 na6 qa6, .slice pa7 na7 qa7, .slice pa8 na8 qa8, .slice pa9 na9 qa9, .slice pa10 na10 qa10, .slice pa11 na11 qa11⟩) 26)) w1.heap.size ⟨.slice pa0 na0 qa0, .slice pa1 na1 qa1, .slice pa2 na2 qa2, .slice pa3 na3 qa3, .slice pa4 na4 qa4, .slice pa5 na5 qa5, .slice pa6 na6 qa6, .slice pa7 na7 qa7, .slice pa8 na8 qa8, .slice pa9 na9 qa9, .slice pa10 na10 qa10, .slice pa11 na11 qa11⟩) := BoxT.new _ _ _
  have HB1 : Hid (Below w.heap.size w (w1.alloc (.cells (tabCells ⟨.slice pa0 na0 qa0, .slice pa1 na1 qa1, .slice pa2 na2 qa2, .slice pa3 na3 qa3, .slice pa4 na4 qa4, .slice pa5 na5 qa5, .slice pa6 na6 qa6, .slice pa7 na7 qa7, .slice pa8 na8 qa8, .slice pa9 na9 qa9, .slice pa10 na10 qa10, .slice pa11 na11 qa11⟩) 26))) := hb1.trans (hba1.mono hb1.size)
  have HM := Lib.hid hm
  have HCAP : Hid (CapOf ⟨.slice pa0 na0 qa0, .slice pa1 na1 qa1, .slice pa2 na2 qa2, .slice pa3 na3 qa3, .slice pa4 na4 qa4, .slice pa5 na5 qa5, .slice pa6 na6 qa6, .slice pa7 na7 qa7, .slice pa8 na8 qa8, .slice pa9 na9 qa9, .slice pa10 na10 qa10, .slice pa11 na11 qa11⟩) := hcap1
  clear htv hm hcap1 hb1 hba1
  simp only [tabCells] at HT1 HX1 HB1
  go_wp2_with fail
  generalize (w1.alloc (.cells #[.slice pa0 na0 qa0, .slice pa1 na1 qa1, .slice pa2 na2 qa2, .slice pa3 na3 qa3, .slice pa4 na4 qa4, .slice pa5 na5 qa5, .slice pa6 na6 qa6, .slice pa7 na7 qa7, .slice pa8 na8 qa8, .slice pa9 na9 qa9, .slice pa10 na10 qa10, .slice pa11 na11 qa11] 26)) = W at HT1 HX1 HB1 ⊢
  generalize w1.heap.size = g at HX1 ⊢
  generalize (⟨.slice pa0 na0 qa0, .slice pa1 na1 qa1, .slice pa2 na2 qa2, .slice pa3 na3 qa3, .slice pa4 na4 qa4, .slice pa5 na5 qa5, .slice pa6 na6 qa6, .slice pa7 na7 qa7, .slice pa8 na8 qa8, .slice pa9 na9 qa9, .slice pa10 na10 qa10, .slice pa11 na11 qa11⟩ : TV) = x at HT1 HX1 HCAP
  have HE : Hid (LEnv w g x T W) := ⟨HT1.out, HX1.out, HB1.out⟩
  clear HT1 HX1 HB1
  refine (marks_any q cq ms _ (HMI.out.below HE.out.bel) HML.out).mono ?_
  rintro e w2 ⟨xs, v2, rfl, hlen, hsca, hi2, hb2⟩
  obtain ⟨pi, ci, rfl, hii⟩ := hi2.inn
  replace HE := Lib.hid (HE.out.step hb2)
  have HRI := Lib.hid hii
  obtain ⟨n, hn⟩ : ∃ n, xs.length = n := ⟨_, rfl⟩
  have HN := Lib.hid hn
  have HSC := Lib.hid hsca
  rw [hn] at hlen ⊢
  clear hii hi2 hsca hb2 hn
  by_cases h2 : n < 2
  · have d2 : decide ((n : Int) < 2) = true := decide_eq_true (by omega)
    have d3 : (n : Int) < 2 := by omega
    go_wp2_with fail
    refine (awake6_any _ (HR.out.below HE.out.bel)).mono ?_
    rintro e w8 ⟨rfl, hb8⟩
    have HB8 := Lib.hid (HE.out.bel.trans (hb8.mono HE.out.bel.size))
    clear hb8
    go_wp2
    go_ret
    exact ⟨rfl, HB8.out⟩
  have d2 : decide ((n : Int) < 2) = false := decide_eq_false (by omega)
  have d3 : ¬ ((n : Int) < 2) := by omega
  obtain ⟨n1, hn1⟩ : ∃ n1 : Nat, n = n1 + 1 := ⟨n - 1, by omega⟩
  have hsub : (n : Int) - 1 = (n1 : Int) := by omega
  obtain ⟨k, HK, hk1⟩ := pickN_nm at' n1 (by omega)
  have HN1 := Lib.hid hn1
  clear hn1
  go_wp2_with fail
  refine (pickN_at at' n1 k _ (by omega) (by omega) HK).mono ?_
  rintro e w3 ⟨rfl, rfl⟩
  obtain ⟨j, hj⟩ : ∃ j, k + 1 = j := ⟨_, rfl⟩
  obtain ⟨A, hA⟩ : ∃ c, xs.getD k 0 = c := ⟨_, rfl⟩
  obtain ⟨B, hB⟩ : ∃ c, xs.getD j 0 = c := ⟨_, rfl⟩
  obtain ⟨b1, o1, e1, c1⟩ := HRI.out k (by rw [HN.out]; omega)
  subst e1
  obtain ⟨b2, o2, e2, c2⟩ := HRI.out j (by rw [HN.out]; omega)
  cases e2
  rw [hA] at c1
  rw [hB] at c2
  obtain ⟨za, hza⟩ : ∃ z, Hid (clsT T A = z) := ⟨_, rfl⟩
  obtain ⟨zb, hzb⟩ : ∃ z, Hid (clsT T B = z) := ⟨_, rfl⟩
  have hsm := swp_same (clsT T) xs k (by rw [HN.out]; omega)
  rw [hj, hA, hB, hza.out, hzb.out] at hsm
  have HSM := Lib.hid hsm
  have HA := Lib.hid hA
  have HB := Lib.hid hB
  have hkn : j < n := by omega
  have hkk : k < n := by omega
  have hkw : IntKind.i64.wrap ((k : Int) + 1) = (j : Int) := by rw [IntWalk.i64_in _ (by omega)]; omega
  have HJ := Lib.hid hj
  clear hA hB hsm hj
  obtain ⟨⟨k0, k1, k2, k3, k4, k5⟩, ⟨k6, k7, k8, k9, k10, k11⟩⟩ := HE.out.box.load
  have K0 := fun p => layB_cell k0 p
  have K1 := fun p => layB_cell k1 p
  have K2 := fun p => layB_cell k2 p
  have K3 := fun p => layB_cell k3 p
  have K4 := fun p => layB_cell k4 p
  have K5 := fun p => layB_cell k5 p
  have K6 := fun p => layB_cell k6 p
  have K7 := fun p => layB_cell k7 p
  have K8 := fun p => layB_cell k8 p
  have K9 := fun p => layB_cell k9 p
  have K10 := fun p => layB_cell k10 p
  have K11 := fun p => layB_cell k11 p
  have KA := fun p => layB_cell c1 p
  have KB := fun p => layB_cell c2 p
  have cc1 := fun p => layB_call (p := p) fun W2 hW2 => rclass_at x T A za W2 (HE.out.tab.below hW2) hza
  have cc2 := fun p => layB_call (p := p) fun W2 hW2 => rclass_at x T B zb W2 (HE.out.tab.below hW2) hzb
  simp only [TV.agg] at cc1 cc2
  have C1 := Lib.hid cc1
  have C2 := Lib.hid cc2
  clear cc1 cc2 k0 k1 k2 k3 k4 k5 k6 k7 k8 k9 k10 k11 c1 c2
  go_upto_region 6 with (fail)
  refine wp_region_layB (by kernel_rfl) (by kernel_rfl) ?_
  repeat (go_big_quiet_step (first
    | (go_at_call 12; with_reducible exact C1.out _)
    | (go_at_call 12; with_reducible exact C2.out _)))
  refine wpQuiet_nil ?_
  intro _ hw'
  obtain ⟨pq, hw''⟩ := hw'
  subst hw''
  have hbq := layB_below w2 pq
  replace HE := Lib.hid (HE.out.step hbq)
  replace HRI := Lib.hid (HRI.out.below hbq)
  generalize layB w2 pq = w4 at hbq HE HRI ⊢
  have hbs : w.heap.size ≤ w4.heap.size := HE.out.bel.size
  clear hbq K0 K1 K2 K3 K4 K5 K6 K7 K8 K9 K10 K11 KA KB C1 C2
  by_cases ha0 : za = 0
  · have d4 : (za == 0) = true := by simp [ha0]
    clear ha0
    go_wp2_with fail
    refine (awake6_any _ (HR.out.below HE.out.bel)).mono ?_
    rintro e w8 ⟨rfl, hb8⟩
    have HB8 := Lib.hid (HE.out.bel.trans (hb8.mono HE.out.bel.size))
    clear hb8
    go_wp2
    go_ret
    exact ⟨rfl, HB8.out⟩
  have d4 : (za == 0) = false := by simp [ha0]
  by_cases hb0 : zb = 0
  · have d5 : (zb == 0) = true := by simp [hb0]
    clear ha0 hb0
    go_wp2_with fail
    refine (awake6_any _ (HR.out.below HE.out.bel)).mono ?_
    rintro e w8 ⟨rfl, hb8⟩
    have HB8 := Lib.hid (HE.out.bel.trans (hb8.mono HE.out.bel.size))
    clear hb8
    go_wp2
    go_ret
    exact ⟨rfl, HB8.out⟩
  have d5 : (zb == 0) = false := by simp [hb0]
  replace HSM := Lib.hid (HSM.out ha0 hb0 (cls_pos HM.out.check))
  clear ha0 hb0
  go_wp2_with (at_builtin; refine wpList_append_ints (.const (.slice none 0 0)) (.tmp 50) rfl rfl w4.heap.size (.slice none 0 0) [] rfl (Ints.nil _ _) _ n ci xs HN.out rfl HRI.out (by rw [HN.out]; simp; omega) (Nat.le_refl _) ?_; intro v5 w5 ho5 hg5)
  rw [List.nil_append] at ho5
  have hb5 : Below w4.heap.size w4 w5 := (Below.refl _ _).grown hg5 (Nat.le_refl _) (by intro k hk; simp [Value.ownBlock] at hk)
  obtain ⟨g5, c5, rfl, hB5, hgl, hcell, hfro⟩ := ho5.row (by rw [HN.out]; omega)
  rw [HN.out] at hcell ho5 ⊢
  have hb5' := hb5
  have cA := hcell k hkk
  have cB := hcell j hkn
  rw [HA.out] at cA
  rw [HB.out] at cB
  have fA := hfro k
  have fB := hfro j
  obtain ⟨b1', o1', e1', c1⟩ := (HRI.out.below hb5') k (by rw [HN.out]; omega)
  cases e1'
  obtain ⟨b2', o2', e2', c2⟩ := (HRI.out.below hb5') j (by rw [HN.out]; omega)
  cases e2'
  rw [HA.out] at c1
  rw [HB.out] at c2
  have hne : (⟨g5, k, none⟩ : Addr) ≠ ⟨g5, j, none⟩ := by simp; have := HJ.out; omega
  have cB2 : (w5.setCell ⟨g5, k, none⟩ (.int .i64 B)).drew.cell? ⟨g5, j, none⟩ = some (.int .i64 B) := (World.cell?_setCell_other _ _ _ _ hne).trans cB
  have fB2 : (w5.setCell ⟨g5, k, none⟩ (.int .i64 B)).drew.frozen? ⟨g5, j, none⟩ = false := (World.frozen?_setCell _ _ _ _).trans fB
  obtain ⟨W6, hW6⟩ : ∃ W6, W6 = (w5.setCell ⟨g5, k, none⟩ (.int .i64 B)).setCell ⟨g5, j, none⟩ (.int .i64 A) := ⟨_, rfl⟩
  have HW6 := Lib.hid hW6
  have hb6 : Below w4.heap.size w4 W6 := by
    rw [hW6]
    exact (hb5.grown (grownBy_store w5 g5 k (.int .i64 B)) hb5.size (by intro z hz; injection hz with hz; omega)).grown (grownBy_store _ g5 j (.int .i64 A)) (by simpa using hb5.size) (by intro z hz; injection hz with hz; omega)
  obtain ⟨O, hO⟩ : ∃ O, swp xs k = O := ⟨_, rfl⟩
  have HO6 : Hid (Ints W6 w4.heap.size (.slice (some ⟨g5, 0, none⟩) n c5) O) := by
    unfold Hid
    rw [hW6, ← hO]
    unfold swp
    rw [HJ.out, HA.out, HB.out]
    exact (ho5.set HN.out k B).set (by simp [HN.out]) j A
  have HOO := Lib.hid hO
  clear hcell hfro hne ho5 hg5 hW6 hO
  go_upto_region 10 with (fail)
  go_region
  clear c1 c2
  go_upto_region 11 with (fail)
  rw [← HW6.out]
  replace HO6 : Hid (Ints W6.drew w4.heap.size (.slice (some ⟨g5, 0, none⟩) n c5) O) := World.ownsRow.drew HO6.out
  replace hb6 : Below w4.heap.size w4 W6.drew := hb6.trans ((drew_one W6).mono hb6.size)
  clear HW6
  generalize W6.drew = W7 at HO6 hb6 ⊢
  replace HE := Lib.hid (HE.out.step hb6)
  replace HRI := Lib.hid (HRI.out.below hb6)
  have HPM := Lib.hid (swp_perm xs k (by rw [HN.out, HJ.out]; exact hkn))
  have hol : O.length = n := by rw [← HOO.out, swp_length]; exact HN.out
  have HAC := Lib.hid (accE_zero (T := T) HM.out.check (by rw [HN.out]; omega) HSC.out)
  have HAO := Lib.hid (accE_zero (T := T) (l := O) HM.out.check (by omega) (by
    rw [List.all_eq_true]; intro c hc
    exact List.all_eq_true.1 HSC.out c (HPM.out.mem_iff.1 (by rw [HOO.out]; exact hc))))
  obtain ⟨X, hX⟩ : ∃ X, ordS (clsT T) xs = X := ⟨_, rfl⟩
  obtain ⟨Y, hY⟩ : ∃ X, ordS (clsT T) O = X := ⟨_, rfl⟩
  have HXO : Hid (ordL T xs = X) := by unfold Hid ordL; rw [HAC.out, if_pos rfl, hX]
  have HYO : Hid (ordL T O = Y) := by unfold Hid ordL; rw [HAO.out, if_pos rfl, hY]
  have hXl : X.length = n := by rw [← hX, ordS_length]; exact HN.out
  have hYl : Y.length = n := by rw [← hY, ordS_length]; exact hol
  have hsm := HSM.out
  rw [HOO.out, hX, hY] at hsm
  have hoc := fun W (h1 : TabV W x T) h2 h3 => order_at x T (some ⟨b1, o1, none⟩) ci xs 0 X W h1 h2 h3 (by rw [HN.out]; omega) HAC HXO
  have hod := fun W (h1 : TabV W x T) h2 h3 => order_at x T (some ⟨g5, 0, none⟩) c5 O 0 Y W h1 h2 h3 (by omega) HAO HYO
  rw [HN.out] at hoc
  rw [hol] at hod
  have hir : IntsIn W7 (some ⟨g5, 0, none⟩) O := by
    obtain ⟨pp, cc, e, h⟩ := HO6.out.inn
    cases e
    exact h
  have HIR := Lib.hid hir
  have HOC := Lib.hid hoc
  have HOD := Lib.hid hod
  have HSB := Lib.hid hsm
  have HXL := Lib.hid hXl
  have HYL := Lib.hid hYl
  clear hoc hod hsm hXl hYl hir hX hY hol cA cB fA fB cB2 fB2 hb5 hb5' hb6 hbs hgl hB5
  obtain ⟨⟨k0, k1, k2, k3, k4, k5⟩, ⟨k6, k7, k8, k9, k10, k11⟩⟩ := HE.out.box.load
  go_wp2_with fail
  refine (HOC.out _ HE.out.tab (HR.out.below HE.out.bel) HRI.out).mono ?_
  rintro e w7 ⟨v7, rfl, ho7, hb7⟩
  obtain ⟨pX, cX, hv7, hX7⟩ := ho7.inn
  rw [HXL.out] at hv7
  subst hv7
  replace HE := Lib.hid (HE.out.step hb7)
  replace HRI := Lib.hid (HRI.out.below hb7)
  replace HIR := Lib.hid (HIR.out.below hb7)
  have HX := Lib.hid hX7
  clear ho7 hb7 hX7 k0 k1 k2 k3 k4 k5 k6 k7 k8 k9 k10 k11
  obtain ⟨⟨k0, k1, k2, k3, k4, k5⟩, ⟨k6, k7, k8, k9, k10, k11⟩⟩ := HE.out.box.load
  go_wp2_with fail
  refine (HOD.out _ HE.out.tab (HR.out.below HE.out.bel) HIR.out).mono ?_
  rintro e w8 ⟨v8, rfl, ho8, hb8⟩
  obtain ⟨pY, cY, hv8, hY8⟩ := ho8.inn
  rw [HYL.out] at hv8
  subst hv8
  replace HE := Lib.hid (HE.out.step hb8)
  replace HRI := Lib.hid (HRI.out.below hb8)
  replace HX := Lib.hid (HX.out.below hb8)
  have HY := Lib.hid hY8
  clear ho8 hb8 hY8 k0 k1 k2 k3 k4 k5 k6 k7 k8 k9 k10 k11
  obtain ⟨b1', o1', e1', c1⟩ := HRI.out k (by rw [HN.out]; omega)
  cases e1'
  obtain ⟨b2', o2', e2', c2⟩ := HRI.out j (by rw [HN.out]; omega)
  cases e2'
  rw [HA.out] at c1
  rw [HB.out] at c2
  have KA := fun p => layB_cell c1 p
  have KB := fun p => layB_cell c2 p
  obtain ⟨S, hS⟩ : ∃ S, Hid ((X == Y) = S) := ⟨_, rfl⟩
  have hs2 := HSB.out
  rw [hS.out] at hs2
  have HS2 := Lib.hid hs2
  have cc1 := fun p => layB_call (p := p) fun W2 hW2 => awake6_any W2 ((HR.out.below HE.out.bel).below hW2)
  have cc2 := fun p => layB_call (p := p) fun W2 hW2 => same_at (.slice pX n cX) (.slice pY n cY) X Y S W2 ⟨_, _, by rw [HXL.out], HX.out.below hW2, by rw [HXL.out]; omega⟩ ⟨_, _, by rw [HYL.out], HY.out.below hW2, by rw [HYL.out]; omega⟩ hS
  have C1 := Lib.hid cc1
  have C2 := Lib.hid cc2
  clear cc1 cc2 c1 c2 hs2
  go_upto_region 13 with (fail)
  by_cases hab : za = zb
  · have d6 : (za != zb) = false := by simp [hab]
    obtain ⟨D, hD⟩ : ∃ D, (A == B) = D := ⟨_, rfl⟩
    have hSD : S = D := by rw [HS2.out, ← hD, Bool.eq_iff_iff]; simp [hab]
    subst hSD
    have d7 : (S == S) = true := by simp
    clear hab
    refine wp_region_layB (by kernel_rfl) (by kernel_rfl) ?_
    repeat (go_big_quiet_step (first
      | (go_at_call 13; with_reducible exact C1.out _)
      | (go_at_call 10; with_reducible exact C2.out _)))
    refine wpQuiet_nil ?_
    intro _ hw'
    obtain ⟨pq, hw''⟩ := hw'
    subst hw''
    have HEq := Lib.hid (HE.out.bel.trans ((layB_below w8 pq).mono HE.out.bel.size))
    generalize layB w8 pq = wq at HEq ⊢
    go_wp2
    go_ret
    exact ⟨by simp, HEq.out⟩
  · have d6 : (za != zb) = true := by simp [hab]
    have hSD : S = true := by rw [HS2.out]; simp [hab]
    subst hSD
    clear hab
    refine wp_region_layB (by kernel_rfl) (by kernel_rfl) ?_
    repeat (go_big_quiet_step (first
      | (go_at_call 13; with_reducible exact C1.out _)
      | (go_at_call 10; with_reducible exact C2.out _)))
    refine wpQuiet_nil ?_
    intro _ hw'
    obtain ⟨pq, hw''⟩ := hw'
    subst hw''
    have HEq := Lib.hid (HE.out.bel.trans ((layB_below w8 pq).mono HE.out.bel.size))
    generalize layB w8 pq = wq at HEq ⊢
    go_wp2
    go_ret
    exact ⟨by simp, HEq.out⟩

end Go.Proofs.YtnnhcgflmhjakaaDoor
