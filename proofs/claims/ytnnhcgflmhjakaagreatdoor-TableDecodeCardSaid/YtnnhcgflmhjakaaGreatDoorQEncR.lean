/-
  The reference of Encode.
-/
import Derived.Test.YtnnhcgflmhjakaaGreatDoorPkN
import Derived.Test.YtnnhcgflmhjakaaGreatDoorQTabRO
import Derived.Test.YtnnhcgflmhjakaaGreatDoorPkM
import Derived.Test.YtnnhcgflmhjakaaGreatDoorQTabK
set_option linter.unusedSimpArgs false
set_option linter.unusedVariables false
namespace Go.Proofs.YtnnhcgflmhjakaaGreatDoor
open Go Go.RowKit
set_option linter.unusedVariables false

theorem pair_below {w w' : World} {g : Nat} {a b : Value} (h : w.cell? ⟨g, 0, none⟩ = some a ∧ w.cell? ⟨g, 1, none⟩ = some b) (hb : Below w.heap.size w w') :
    w'.cell? ⟨g, 0, none⟩ = some a ∧ w'.cell? ⟨g, 1, none⟩ = some b := by
  have hlt := World.block_lt_of_cell? w _ h.1
  exact ⟨(hb.cell (p := ⟨g, 0, none⟩) hlt).trans h.1, (hb.cell (p := ⟨g, 1, none⟩) hlt).trans h.2⟩

theorem pair_new (w : World) (a b : Value) (t : TypeId) : (w.alloc (.cells #[a, b] t)).cell? ⟨w.heap.size, 0, none⟩ = some a ∧ (w.alloc (.cells #[a, b] t)).cell? ⟨w.heap.size, 1, none⟩ = some b := by
  constructor <;> (rw [World.cell?_alloc_new]; rfl)

theorem encT_bad {T : Tb} (h : checkT T ≠ 0) : encT T = (ByteArray.empty, 2) := by rw [encT, if_pos h]
theorem encT_full {T : Tb} {S : ByteArray} (h : checkT T = 0) (hS : S = rowsB T ++ putB (sumS (rowsB T))) (hb : 32768 < S.size) : encT T = (ByteArray.empty, 7) := by
  subst hS; rw [encT, if_neg (by simp [h]), if_pos hb]
theorem encT_ok {T : Tb} {S : ByteArray} (h : checkT T = 0) (hS : S = rowsB T ++ putB (sumS (rowsB T))) (hb : ¬ 32768 < S.size) : encT T = (S, 0) := by
  subst hS; rw [encT, if_neg (by simp [h]), if_neg hb]

set_option maxRecDepth 100000 in
set_option maxHeartbeats 8000000 in
theorem rencode_any (x : TV) (T : Tb) (X : ByteArray) (er : Int) (w : World) (hx : TabV w x T) (hcap : ∀ p n c, x.a9 = .slice p n c → n ≤ c) (hX : Hid (encT T = (X, er))) :
    Calls Tryz.prog 7 #[x.agg] w fun e w' => e = .returned (.tuple #[.string X, .int .i64 er]) ∧ Below w.heap.size w w' := by
  obtain ⟨a0, a1, a2, a3, a4, a5, a6, a7, a8, a9, a10, a11⟩ := x
  obtain ⟨pe, ce, he, hei, hel⟩ := hx.exc
  obtain ⟨ne, hne⟩ : ∃ n, T.exc.length = n := ⟨_, rfl⟩
  rw [hne] at he hel
  simp only at he
  subst he
  have HE := Lib.hid (Env.new hx)
  have HN := Lib.hid hne
  have HEI := Lib.hid hei
  have HC := Lib.hid hcap
  clear hx hne hei hcap
  obtain ⟨V, hV⟩ : ∃ V, Hid (checkT T = V) := ⟨_, rfl⟩
  simp only [TV.agg]
  by_cases hv0 : V = 0
  case neg =>
    have hE := hX.out
    rw [encT_bad (by rw [hV.out]; exact hv0)] at hE
    injection hE with e1 e2
    subst e1; subst e2
    go_enter Tryz.func7, Tryz.ntmps7
    go_wp2_with fail
    refine (rcheck_tab _ T V _ HE.out.tab HC.out hV).mono ?_
    rintro e w1 ⟨rfl, hb⟩
    have HE1 := Lib.hid (HE.out.step hb)
    clear hb
    go_wp2
    go_ret2
    exact ⟨rfl, HE1.out.bel⟩
  case pos =>
  subst hv0
  have HO := Lib.hid (enc_ok hV.out)
  have HP := Lib.hid (rowsB_parts HO.out)
  go_enter Tryz.func7, Tryz.ntmps7
  go_wp2_with fail
  refine (rcheck_tab _ T 0 _ HE.out.tab HC.out hV).mono ?_
  rintro e w1 ⟨rfl, hb⟩
  have HE1 := Lib.hid (HE.out.step hb)
  clear hb
  have hbx := HE1.out.box
  simp only [BoxT] at hbx
  obtain ⟨⟨k0, k1, k2, k3, k4, k5⟩, ⟨k6, k7, k8, k9, k10, k11⟩⟩ := hbx
  go_wp2_with fail
  refine (rspans_any _ T _ HE1.out.tab).mono ?_
  rintro e w2 ⟨g, h, rfl, hsev, _, hb2⟩
  have HS := Lib.hid hsev
  have HE2 := Lib.hid (HE1.out.step hb2)
  clear hb2 hsev k0 k1 k2 k3 k4 k5 k6 k7 k8 k9 k10 k11
  go_wp2
  obtain ⟨wo, rfl⟩ : ∃ wo : World, wo = w2 := ⟨_, rfl⟩
  go_loopw [4, 24] (fun sv i wr => ∃ (k : Nat) (S : ByteArray), k ≤ 7 ∧ i = .int .i64 k ∧ sv = .string S ∧ Hid (S = accS sigB ((spansT T).take k)) ∧ Hid (Below wo.heap.size wo wr)) (fun _ i _ => 7 - (intOf i).toNat)
  case atStart => exact ⟨0, sigB, by omega, rfl, rfl, rfl, Below.refl _ _⟩
  case round =>
    obtain ⟨k, S, hk, rfl, rfl, hS, hbel⟩ := hrel
    by_cases hlt : k < 7
    · obtain ⟨p, n, c, l, hl, hln, hn, hin, hc⟩ := (HS.out.below hbel.out).at_ (HE2.out.step hbel.out).tab k hlt
      have hput := (HO.out.s k hlt).2 S
      rw [hl] at hput
      have hsz := HP.out.1 k (by omega)
      rw [← hS.out] at hsz
      obtain ⟨S2, hS2⟩ : ∃ S2, S ++ encSp l = S2 := ⟨_, rfl⟩
      rw [hS2] at hput
      have HQ : Hid (putSpansS S l = (S2, 0)) := hput
      have HS2 : Hid (S2 = accS sigB ((spansT T).take (k + 1))) := by unfold Hid; rw [accS_take _ _ _ (by rw [spansT_len]; exact hlt), ← hS.out, hl, hS2]
      have HI := Lib.hid hin
      have HLN := Lib.hid hln
      clear hput hl hln hin hS2
      go_wp2_with fail
      refine (rputSpans_any S p n c l S2 0 _ (by omega) HLN.out (by unfold maxLen; omega) HI.out HQ).mono ?_
      rintro e w3 ⟨rfl, hb3⟩
      have HB3 := Lib.hid (hbel.out.trans (hb3.mono hbel.out.size))
      clear hb3 hc
      go_wp2
      go_roundw
      case rel => exact ⟨k + 1, S2, by omega, by go_num, rfl, HS2, HB3⟩
      case measure => simp [intOf]; omega
    · obtain rfl : k = 7 := by omega
      have HS7 : Hid (S = accS sigB (spansT T)) := by
        have := hS.out
        rwa [List.take_of_length_le (Nat.le_of_eq (spansT_len T))] at this
      have HE3 := Lib.hid (HE2.out.step hbel.out)
      have hbx := HE3.out.box
      simp only [BoxT] at hbx
      obtain ⟨⟨k0, k1, k2, k3, k4, k5⟩, ⟨k6, k7, k8, k9, k10, k11⟩⟩ := hbx
      go_wp2_with fail
      refine (rmaps_any _ T _ HE3.out.tab).mono ?_
      rintro e w3 ⟨g2, rfl, hfour, hb3⟩
      have HF4 := Lib.hid hfour
      have HE4 := Lib.hid (HE3.out.step hb3)
      clear hb3 hfour k0 k1 k2 k3 k4 k5 k6 k7 k8 k9 k10 k11
      go_wp2
      obtain ⟨wo2, rfl⟩ : ∃ wo2 : World, wo2 = w3 := ⟨_, rfl⟩
      go_loopw [4, 39] (fun sv i wr => ∃ (k : Nat) (S : ByteArray), k ≤ 4 ∧ i = .int .i64 k ∧ sv = .string S ∧ Hid (S = accM (accS sigB (spansT T)) ((mpsT T).take k)) ∧ Hid (Below wo2.heap.size wo2 wr)) (fun _ i _ => 4 - (intOf i).toNat)
      case atStart => exact ⟨0, S, by omega, rfl, rfl, HS7, Below.refl _ _⟩
      case round =>
        clear hS HS7 hbel
        obtain ⟨k, S, hk, rfl, rfl, hS, hbel⟩ := hrel
        by_cases hlt4 : k < 4
        · obtain ⟨p, n, c, l, hl, hln, hn, hin, hc⟩ := (HF4.out.below hbel.out).at_ (HE4.out.step hbel.out).tab k hlt4
          have hm := HO.out.m k hlt4
          have hz := HP.out.2.1 k (by omega)
          have hz2 := fun j => HP.out.2.2 k j hlt4
          have hacc := accM_take (accS sigB (spansT T)) (mpsT T) k (by rw [mpsT_len]; exact hlt4)
          rw [hl, hln] at hm hz2 hacc
          rw [← hS.out] at hz hz2 hacc
          obtain ⟨S1, hS1⟩ : ∃ S1, S ++ putB (n : Int) = S1 := ⟨_, rfl⟩
          rw [hS1] at hz2 hacc
          have HS1 := Lib.hid hS1
          have HACC := Lib.hid hacc
          have HZ2 := Lib.hid hz2
          have HM := Lib.hid hm.2
          have hn256 := hm.1
          have HI := Lib.hid hin
          have HLN := Lib.hid hln
          clear hS1 hacc hz2 hm hl hln hin
          go_wp2_with fail
          refine (rputInt_any S S1 (n : Int) _ (by omega) (isI_small (by omega) (by omega)) HS1).mono ?_
          rintro e w4 ⟨rfl, hb4⟩
          have HB4 := Lib.hid (hbel.out.trans (hb4.mono hbel.out.size))
          have HI4 := Lib.hid (HI.out.below hb4)
          clear hb4 hc
          go_wp2
          obtain ⟨wi, rfl⟩ : ∃ wi : World, wi = w4 := ⟨_, rfl⟩
          go_loopw [4, 49] (fun sv i wr => ∃ (j : Nat) (S : ByteArray), j ≤ n ∧ i = .int .i64 j ∧ sv = .string S ∧ Hid (S = accR S1 (l.take j)) ∧ Hid (Below wi.heap.size wi wr)) (fun _ i _ => n - (intOf i).toNat)
          case atStart => exact ⟨0, S1, Nat.zero_le _, rfl, rfl, rfl, Below.refl _ _⟩
          case round =>
            clear hbel hS hz
            obtain ⟨j, S, hj, rfl, rfl, hS, hbel⟩ := hrel
            by_cases hlt5 : j < n
            · have hjl : j < l.length := by rw [HLN.out]; exact hlt5
              obtain ⟨b, off, v, rfl, hc1, hc2, hv⟩ := (HI4.out.below hbel.out) j hjl
              obtain ⟨m1, m2, m3, m4⟩ := HM.out j hlt5
              have hz := HZ2.out j hj
              rw [← hS.out] at hz
              have hacc := accR_take S1 l j hjl
              rw [← hS.out] at hacc
              obtain ⟨⟨f, tl⟩, hs⟩ : ∃ s, l.getD j mp0 = s := ⟨_, rfl⟩
              rw [hs] at hc1 hv m1 m2 m3 m4 hacc
              simp only at hc1 hv m1 m2 m3 m4
              obtain ⟨pv, cv, rfl, hvi, hvl⟩ := hv
              have hput := fun b => putList_ok tl (by omega) m4 b
              obtain ⟨nt, hnt⟩ : ∃ n, tl.length = n := ⟨_, rfl⟩
              rw [hnt] at hc2 m3
              obtain ⟨S2, hS2⟩ : ∃ S2, S ++ putB f = S2 := ⟨_, rfl⟩
              obtain ⟨S3, hS3⟩ : ∃ S3, S2 ++ encLi tl = S3 := ⟨_, rfl⟩
              have hz3 := put_size S f
              rw [hS2] at hz3
              have HS2 := Lib.hid hS2
              have HQ : Hid (putListS S2 tl = (S3, 0)) := by unfold Hid; rw [hput, hS3]
              have HS3 : Hid (S3 = accR S1 (l.take (j + 1))) := by
                unfold Hid; rw [hacc, encRow, ← str_assoc, hS2, hS3]
              have HNT := Lib.hid hnt
              have hB0 := hbel.out.alloc hbel.out.size (.cells #[.int .i64 f, .slice pv nt cv] 55)
              have hP0 := pair_new wr (.int .i64 f) (.slice pv nt cv) 55
              have HVI := Lib.hid (hvi.below ((Below.refl wr.heap.size wr).alloc (Nat.le_refl _) (.cells #[.int .i64 f, .slice pv nt cv] 55)))
              clear hput hacc hS2 hS3 hnt hs hvi
              go_wp2_with fail
              generalize wr.alloc (.cells #[.int .i64 f, .slice pv nt cv] 55) = W0 at hB0 hP0 HVI ⊢
              generalize wr.heap.size = g0 at hP0 ⊢
              have HB0 := Lib.hid hB0
              obtain ⟨q0, q1⟩ := hP0
              clear hB0 hc1 hc2 hbel
              go_region_held3 (fun w' => w'.cell? ⟨g0, 0, none⟩ = some (.int .i64 f) ∧ w'.cell? ⟨g0, 1, none⟩ = some (.slice pv nt cv))
                (first
                  | go_keep
                  | (refine pair_below ?_ hb6; assumption)
                  | (refine pair_below ?_ hb5; assumption))
                (first
                  | (go_at_call 11; (with_reducible refine (rputInt_any S S2 f _ (by omega) (isI_small (by omega) (by omega)) HS2).mono ?_); rintro e w5 ⟨rfl, hb5⟩)
                  | (go_at_call 25; (with_reducible refine (rputList_any S2 pv nt cv tl S3 0 _ (by omega) HNT.out (by unfold maxLen; omega) ((HVI.out.below (drew_one _)).below hb5) HQ).mono ?_); rintro e w6 ⟨rfl, hb6⟩))
              all_goals
                have hB5 := (below_drewN_sp HB0.out 1).trans (hb5.mono HB0.out.size)
                have HB6 := Lib.hid (hB5.trans (hb6.mono hB5.size))
                clear hb5 hb6 hB5 HVI HB0
                go_wp2
                go_roundw
                case rel => exact ⟨j + 1, S3, by omega, by go_num, rfl, HS3, HB6⟩
                case measure => simp [intOf]; omega
            · obtain rfl : j = n := by omega
              have HS5 : Hid (S = accM (accS sigB (spansT T)) ((mpsT T).take (k + 1))) := by
                unfold Hid
                have := hS.out
                rw [List.take_of_length_le (Nat.le_of_eq HLN.out)] at this
                rw [HACC.out, this]
              go_wp2
              go_roundw
              case rel => exact ⟨k + 1, S, by omega, by go_num, rfl, HS5, HB4.out.trans (hbel.out.mono HB4.out.size)⟩
              case measure => simp [intOf]; omega
        · obtain rfl : k = 4 := by omega
          have hz := HP.out.2.1 4 (by omega)
          rw [← hS.out] at hz
          have hM4 : S = accM (accS sigB (spansT T)) (mpsT T) := by
            have := hS.out
            rwa [List.take_of_length_le (Nat.le_of_eq (mpsT_len T))] at this
          have HE5 := Lib.hid (HE4.out.step hbel.out)
          have k10 := HE5.out.box.2.2.2.2.2.1
          simp only at k10
          have hlo := HO.out.exc
          have hsx := encLi_size T.exc
          rw [HN.out] at hsx
          have hne : ne ≤ 256 := by have := hlo.1; rw [HN.out] at this; exact this
          obtain ⟨S2, hS2⟩ : ∃ S2, S ++ encLi T.exc = S2 := ⟨_, rfl⟩
          have HQ : Hid (putListS S T.exc = (S2, 0)) := by unfold Hid; rw [putList_ok _ hlo.1 hlo.2, hS2]
          have hR : S2 = rowsB T := by rw [rowsB, ← hM4, hS2]
          have hsz2 : S2.size ≤ 310000 := by rw [← hS2, ByteArray.size_append]; omega
          obtain ⟨Y, hY⟩ : ∃ Y, sumS S2 = Y := ⟨_, rfl⟩
          have hYb := sumS_bd S2
          rw [hY] at hYb
          obtain ⟨S3, hS3⟩ : ∃ S3, S2 ++ putB Y = S3 := ⟨_, rfl⟩
          have HF : Hid (S3 = rowsB T ++ putB (sumS (rowsB T))) := by unfold Hid; rw [← hR, hY, hS3]
          have HY := Lib.hid hY
          have HS3 := Lib.hid hS3
          have hsz3 := put_size S2 Y
          rw [hS3] at hsz3
          clear hS hS2 hS3 hY hR hM4 hlo hsx
          have HXI : Hid (IntsIn wr pe T.exc) := by
            have := HE5.out.tab.exc
            obtain ⟨p', c', h1, h2, _⟩ := this
            simp only [Value.slice.injEq] at h1
            rw [h1.1]; exact h2
          go_wp2_with fail
          refine (rputList_any S pe ne ce T.exc S2 0 _ (by omega) HN.out (by unfold maxLen; omega) HXI.out HQ).mono ?_
          rintro e w4 ⟨rfl, hb4⟩
          have HB4 := Lib.hid (HE5.out.bel.trans (hb4.mono HE5.out.bel.size))
          clear hb4 k10
          go_wp2_with fail
          refine (rsum_any S2 Y _ (by unfold maxLen; omega) HY).mono ?_
          rintro e w5 ⟨rfl, rfl⟩
          go_wp2_with fail
          refine (rputInt_any S2 S3 Y _ (by omega) (isI_small (by omega) (by omega)) HS3).mono ?_
          rintro e w6 ⟨rfl, hb6⟩
          have HB6 := Lib.hid (HB4.out.trans (hb6.mono HB4.out.size))
          clear hb6
          have hE := hX.out
          by_cases hbig : 32768 < S3.size
          · rw [encT_full hV.out HF.out hbig] at hE
            injection hE with e1 e2
            subst e1; subst e2
            go_wp2
            go_ret2
            exact ⟨rfl, HB6.out⟩
          · rw [encT_ok hV.out HF.out hbig] at hE
            injection hE with e1 e2
            subst e1; subst e2
            go_wp2
            go_ret2
            exact ⟨rfl, HB6.out⟩

end Go.Proofs.YtnnhcgflmhjakaaGreatDoor
