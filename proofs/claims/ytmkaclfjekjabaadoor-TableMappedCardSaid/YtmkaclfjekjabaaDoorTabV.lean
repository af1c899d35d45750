/-
  table: rule 8.
-/
import Derived.Test.YtmkaclfjekjabaaDoorTabU
namespace Go.Proofs.YtmkaclfjekjabaaDoor
open Go.RowKit Go.Maps

theorem comp_mem {T : Tb} (hf : ∀ m ∈ T.dec, findM T.dec m.1 = m.2) (hs : ∀ m ∈ T.dec, m.2.all scaB = true) {l : List Mp} (hl : ∀ m ∈ l, m ∈ T.dec) : ∀ y ∈ cmpTos T l, ∃ c d, y = [c, d] ∧ wfI c ∧ wfI d := by
  intro y hy
  simp only [cmpTos, List.mem_map, List.mem_filter] at hy
  obtain ⟨m, ⟨hm, hc⟩, rfl⟩ := hy
  have hlen : m.2.length = 2 := by
    apply Classical.byContradiction
    intro h
    have := compT_not (T := T) (c := m.1) (by rw [hf m (hl m hm)]; exact h)
    rw [hc] at this; cases this
  have hsc := hs m (hl m hm)
  obtain ⟨f, y⟩ := m
  match y, hlen, hsc with
  | [c, d], _, hsc =>
    simp only [List.all_cons, List.all_nil, Bool.and_eq_true, scaB_iff] at hsc
    exact ⟨c, d, rfl, ⟨hsc.1.1, hsc.1.2.1⟩, ⟨hsc.2.1.1, hsc.2.1.2.1⟩⟩

theorem ownsMap_below {w w' : World} {B n : Nat} {D : DataW Unit} (h : w.ownsMap Tryd.prog 80 (plainElem Tryd.prog 4) B n D) (hb : Below w.heap.size w w') : w'.ownsMap Tryd.prog 80 (plainElem Tryd.prog 4) B n D := h.kept (below_grownBy hb none) (by simp)

set_option maxRecDepth 100000 in
set_option maxHeartbeats 8000000 in
theorem unique_any (x : TV) (T : Tb) (w : World) (hx : TabV w x T) (H : CmpH T) (hs : ∀ m ∈ T.dec, m.2.all scaB = true) :
    Calls Tryd.prog 23 #[x.agg] w (Gives (.bool (r8 T)) w) := by
  obtain ⟨a0, a1, a2, a3, a4, a5, a6, a7, a8, a9, a10, a11⟩ := x
  obtain ⟨pm, cm, hm, hmin, hml⟩ := hx.dec
  obtain ⟨n, hn⟩ : ∃ n, T.dec.length = n := ⟨_, rfl⟩
  rw [hn] at hm hml
  simp only at hm
  subst hm
  have hfm : ∀ m ∈ T.dec, findM T.dec m.1 = m.2 := fun m hm => by
    obtain ⟨k, hk, rfl⟩ := List.getElem_of_mem hm
    have := findM_at H.dec k hk
    rw [List.getD_eq_getElem?_getD, List.getElem?_eq_getElem hk] at this
    exact this
  have HWF := Lib.hid (fun l hl => comp_mem hfm hs (l := l) hl)
  have HE0 := Lib.hid (Env.new hx)
  have HE := Lib.hid (HE0.out.step ((Below.refl _ _).alloc (Nat.le_refl _) (.map #[] 0)))
  have HO0 := Lib.hid (World.ownsMap_made (w.alloc (.cells (tabCells ⟨a0, a1, a2, a3, a4, a5, a6, a7, a8, .slice pm n cm, a10, a11⟩) 26)) Tryd.prog 80 (plainElem (H := Unit) Tryd.prog 4))
  have hsz : (w.alloc (.cells (tabCells ⟨a0, a1, a2, a3, a4, a5, a6, a7, a8, .slice pm n cm, a10, a11⟩) 26)).heap.size = w.heap.size + 1 := by simp
  rw [hsz] at HO0
  have hnle : n ≤ 256 := by rw [← hn]; exact H.len
  have HX := Lib.hid hx
  have HH := Lib.hid H
  have HN := Lib.hid hn
  have HMI := Lib.hid hmin
  have HFM := Lib.hid hfm
  have hmm := @run_makeMap Tryd.prog
  clear hx hn hmin hs hfm H hsz
  simp only [TV.agg]
  go_enter Tryd.func23, Tryd.ntmps23
  go_wp2
  clear hmm
  go_loopw [11] (fun i wr => ∃ k : Nat, k ≤ n ∧ i = .int .i64 k ∧ Hid ((cmpTos T (T.dec.take k)).Nodup) ∧ Hid (Env w ⟨a0, a1, a2, a3, a4, a5, a6, a7, a8, .slice pm n cm, a10, a11⟩ T wr) ∧ Hid (wr.ownsMap Tryd.prog 80 (plainElem Tryd.prog 4) (w.heap.size + 1) k (setP (cmpTos T (T.dec.take k))))) (fun i _ => n - (intOf i).toNat)
  case atStart => exact ⟨0, Nat.zero_le _, rfl, by simp [Hid, cmpTos], HE, HO0⟩
  case round =>
    obtain ⟨k, hk, rfl, hnd, he, ho⟩ := hrel
    by_cases hlt : k < n
    · have hkl : k < T.dec.length := by rw [HN.out]; exact hlt
      obtain ⟨b, off, v, rfl, hc1, hc2, qa, cq, rfl, hi2, hm2⟩ := (HMI.out.below he.out.bel) k hkl
      have hsn : cmpTos T (T.dec.take (k + 1)) = cmpTos T (T.dec.take k) ++ if compT T (T.dec.getD k mp0).1 = true then [(T.dec.getD k mp0).2] else [] := by
        rw [take_snoc_mp T.dec k hkl, cmpTos_snoc]
      have hf := findM_at HH.out.dec k hkl
      have hwf0 := HWF.out (T.dec.take k) fun m hm => List.mem_of_mem_take hm
      have hwf1 := HWF.out (T.dec.take (k + 1)) fun m hm => List.mem_of_mem_take hm
      obtain ⟨⟨f, y⟩, hs⟩ : ∃ s, T.dec.getD k mp0 = s := ⟨_, rfl⟩
      rw [hs] at hc1 hc2 hsn hf hi2 hm2
      simp only at hc1 hc2 hsn hf hi2 hm2
      obtain ⟨acc, hacc⟩ : ∃ acc, cmpTos T (T.dec.take k) = acc := ⟨_, rfl⟩
      rw [hacc] at hsn hnd ho hwf0
      obtain ⟨m, hm3⟩ : ∃ m, y.length = m := ⟨_, rfl⟩
      obtain ⟨C, hC⟩ : ∃ C, Hid (compT T f = C) := ⟨_, rfl⟩
      rw [hC.out] at hsn
      have hb0 : Below wr.heap.size wr (wr.alloc (.cells #[.int .i64 f, .slice qa m cq] 39)) := (Below.refl _ _).alloc (Nat.le_refl _) _
      have HEb := Lib.hid (he.out.step hb0)
      have HOb := Lib.hid (ownsMap_below ho.out hb0)
      have HBM := Lib.hid (BoxM.new wr f (.slice qa m cq) 39)
      have HY1 := Lib.hid (RowIn.alloc hi2 (.cells #[.int .i64 f, .slice qa m cq] 39))
      have hv : InV (wr.alloc (.cells #[.int .i64 f, .slice qa m cq] 39)) (.slice qa m cq) y := ⟨qa, cq, by rw [hm3], HY1.out, hm2⟩
      rw [hm3] at hc2 hm2
      have hcall := composable_any T HH.out 256 _ f _ y _ (HH.out.dp f) hf HEb.out.tab hv
      rw [hC.out] at hcall
      have HC := Lib.hid hcall
      have HSN := Lib.hid hsn
      have HFF := Lib.hid hf
      have HM3 := Lib.hid hm3
      have HACC := Lib.hid hacc
      have HW0 := Lib.hid hwf0
      have HW1 := Lib.hid hwf1
      have hbx := HEb.out.box
      simp only [BoxT] at hbx
      obtain ⟨⟨k0, k1, k2, k3, k4, k5⟩, ⟨k6, k7, k8, k9, k10, k11⟩⟩ := hbx
      clear hs hsn hf hb0 hv hcall hi2 hm3 hacc hwf0 hwf1
      go_wp2_with fail
      refine HC.out.mono ?_
      rintro e w2 ⟨rfl, hb2⟩
      have HE2 := Lib.hid (HEb.out.step hb2)
      have HO2 := Lib.hid (ownsMap_below HOb.out hb2)
      have HBM2 := Lib.hid (HBM.out.below hb2)
      have HY2 := Lib.hid (HY1.out.below hb2)
      clear hb2 k0 k1 k2 k3 k4 k5 k6 k7 k8 k9 k10 k11 hc1 hc2 HC
      cases C with
      | false =>
        have HT : Hid (cmpTos T (T.dec.take (k + 1)) = acc) := by unfold Hid; rw [HSN.out]; simp
        go_wp2
        go_roundw
        case rel => exact ⟨k + 1, by omega, by go_num, by rw [HT.out]; exact hnd, HE2, by rw [HT.out]; exact HO2.out.mono (Nat.le_succ _)⟩
        case measure => simp [intOf]; omega
      | true =>
        have HT : Hid (cmpTos T (T.dec.take (k + 1)) = acc ++ [y]) := by unfold Hid; rw [HSN.out]; simp
        obtain ⟨a, b', rfl, hwa, hwb⟩ := HW1.out y (by rw [HT.out]; simp)
        obtain rfl : m = 2 := HM3.out.symm
        obtain ⟨be, offe, rfl, s0⟩ := HY2.out 0 (by simp)
        obtain ⟨be', offe', ee, s1⟩ := HY2.out 1 (by simp)
        injection ee with ee
        injection ee with ee1 ee2
        subst ee1; subst ee2
        simp only [List.getD_cons_zero, List.getD_cons_succ, Nat.add_zero] at s0 s1
        obtain ⟨m0, m1⟩ := HBM2.out
        have HWA := Lib.hid hwa
        have HWB := Lib.hid hwb
        clear hwa hwb
        go_upto_region 6 with (fail)
        go_cut [6] (fun v wx => ∃ g, v = .pointer (some ⟨g, 0, none⟩) ∧ Hid (wx.cell? ⟨g, 0, none⟩ = some (.int .i64 a)) ∧ Hid (wx.cell? ⟨g, 1, none⟩ = some (.int .i64 b')) ∧ Hid (Below w2.heap.size w2 wx))
        case first =>
          go_region_held3 (fun w' => w'.cell? ⟨wr.heap.size, 1, none⟩ = some (.slice (some ⟨be, offe, none⟩) 2 cq) ∧ w'.cell? ⟨be, offe, none⟩ = some (.int .i64 a) ∧ w'.cell? ⟨be, offe + 1, none⟩ = some (.int .i64 b')) (go_keep) (first | fail)
          all_goals
            go_wp2_with fail
            go_meet
            refine ⟨w2.heap.size, rfl, ?_, ?_, ((Below.refl _ _).alloc (Nat.le_refl _) _).trans (by exact (drew_one (w2.alloc (.cells #[.int .i64 a, .int .i64 b'] 80))).mono (by simp))⟩
            · unfold Hid; simp [World.cell?_alloc_new]
            · unfold Hid; simp [World.cell?_alloc_new]
        case rest =>
          obtain ⟨g, rfl, hg0, hg1, hbx⟩ := hcut
          have HE3 := Lib.hid (HE2.out.step hbx.out)
          have HO3 := Lib.hid (ownsMap_below HO2.out hbx.out)
          have hlk := lookup_pair HO3.out HW0.out HWA.out HWB.out
          have g0 := hg0.out
          have g1 := hg1.out
          clear m0 m1 s0 s1
          by_cases hin : [a, b'] ∈ acc
          · have HF : Hid (r8 T = false) := by
              unfold Hid r8
              refine decide_eq_false (nodup_of_take (k + 1) ?_)
              rw [HT.out]
              exact not_nodup_snoc hin
            rw [decide_eq_true hin] at hlk
            clear hin
            go_wp2
            go_ret
            rw [HF.out]
            exact ⟨rfl, HE3.out.bel⟩
          · have HND : Hid ((cmpTos T (T.dec.take (k + 1))).Nodup) := by
              unfold Hid; rw [HT.out]; exact nodup_snoc hnd.out hin
            rw [decide_eq_false hin] at hlk
            clear hin
            go_wp2_with (at_mapUpdate; refine wpList_mapUpdate_own _ rfl _ _ _ 78 rfl 80 4 pairLaw Tryd.underlying78 (plainElem Tryd.prog 4) (w.heap.size + 1) k (setP acc) rfl HO3.out (by unfold maxLen; omega) _ _ (pairLit a b') rfl rfl (pair_key HWA.out HWB.out) (.lit (.bool true)) [] (plainElem_bool Tryd.underlying4 true) ?_; intro w4 hown4 hg4)
            have HE4 := Lib.hid (HE3.out.grown HX.out hg4 (Nat.lt_succ_self _))
            have HO4 : Hid (w4.ownsMap Tryd.prog 80 (plainElem Tryd.prog 4) (w.heap.size + 1) (k + 1) (setP (cmpTos T (T.dec.take (k + 1))))) := by
              unfold Hid; rw [HT.out, setP_snoc]; exact hown4
            clear hown4 hg4 hlk g0 g1
            go_wp2
            go_roundw
            case rel => exact ⟨k + 1, by omega, by go_num, HND, HE4, HO4⟩
            case measure => simp [intOf]; omega
    · obtain rfl : k = n := by omega
      have HT : Hid (r8 T = true) := by
        have := hnd.out
        rw [List.take_of_length_le (Nat.le_of_eq HN.out)] at this
        exact decide_eq_true this
      go_wp2
      go_ret
      rw [HT.out]
      exact ⟨rfl, he.out.bel⟩

end Go.Proofs.YtmkaclfjekjabaaDoor
