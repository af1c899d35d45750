/-
  The walk of DecomposeBound (genDL.py).
-/
import Derived.Test.YtgekoeobllhnnaaGreatDoorPkZR
import Derived.Test.YtgekoeobllhnnaaGreatDoorPkD
import Derived.Laws.OwnMore
import Derived.BigQuiet
set_option linter.unusedSimpArgs false
set_option linter.unusedVariables false
namespace Go.Proofs.YtgekoeobllhnnaaGreatDoor
open Go.RowKit
set_option linter.unusedVariables false

theorem oneT_lenB (T : Tb) (c : Int) : (oneT T c).length ≤ 17592186043904 := by
  unfold oneT
  split
  · rename_i h
    have := (exp_len h.2 c).2
    omega
  · simp

theorem Ints.full (w : World) (B c : Nat) (hB : B ≤ w.heap.size) (hc : c ≤ 4194304) : Ints (w.alloc (madeI c)) B (.slice (some ⟨w.heap.size, 0, none⟩) c c) (List.replicate c 0) := by
  unfold Ints madeI
  have e : (Value.cells (.int .i64 0)) = #[.int .i64 0] := rfl
  rw [e]
  refine ⟨by simp, .inr ⟨w.heap.size, c, _, by simp, hB, heap_alloc_new w _, by simp, by unfold maxLen; omega, by simp [size_madeCells], ?_⟩⟩
  rw [toList_madeCells_one]; simp

theorem Ints.at_row {w : World} {B g n c : Nat} {xs : List Int} (h : Ints w B (.slice (some ⟨g, 0, none⟩) n c) xs) (hn : xs.length = n) (k : Nat) (hk : k < n) :
    w.cell? ⟨g, k, none⟩ = some (.int .i64 (xs.getD k 0)) ∧ w.frozen? ⟨g, k, none⟩ = false ∧ B ≤ g := by
  obtain ⟨g', c', e, h1, _, h3, h4⟩ := h.row (by omega)
  injection e with e1 _ _
  injection e1 with e1
  injection e1 with e1 _ _
  subst e1
  exact ⟨h3 k (by omega), h4 k, h1⟩

theorem rep_set (c : Int) (j K : Nat) (h : j < K) : (List.replicate j c ++ List.replicate (K - j) 0).set j c = List.replicate (j + 1) c ++ List.replicate (K - (j + 1)) 0 := by
  obtain ⟨d, hd⟩ : ∃ d, K - j = d + 1 := ⟨K - j - 1, by omega⟩
  have hd2 : K - (j + 1) = d := by omega
  rw [hd, hd2, List.set_append_right _ _ (by simp), List.replicate_succ, List.replicate_succ']
  simp

theorem pickN_q (v n q : Int) (w : World) (h0 : 1 ≤ n) (h1 : n ≤ 1125899906842624) (hq : Hid (pickS v n = q)) :
    Calls Tryz.prog 21 #[.int .i64 v, .int .i64 n] w fun e w' => e = .returned (.int .i64 q) ∧ w' = w := (pickN_at v n q w h0 h1 hq).mono fun e w' h => ⟨h.1, h.2.symm⟩

set_option maxRecDepth 100000 in
set_option maxHeartbeats 8000000 in
theorem decomposeBound_walk (p0 : Option Addr) (cap0 : Nat) (zs0 : List Int) (n1 : Int) (n2 : Int) (w : World) (hin0 : IntsIn w p0 zs0) (hl0 : zs0.length ≤ 17592186043904) (hr : Rsv w) :
    Calls Tryz.prog 7 #[.slice p0 zs0.length cap0, .int .i64 n1, .int .i64 n2] w (Gives (.bool true) w) := by
  have HI0 := Lib.hid hin0
  have HL0 := Lib.hid hl0
  have HR := Lib.hid hr
  clear hin0 hl0 hr
  go_enter Tryz.func7, Tryz.ntmps7
  go_wp2_with fail
  refine (tables_any p0 cap0 zs0 _ HI0.out HL0.out).mono ?_
  rintro e w1 ⟨⟨a0, a1, a2, a3, a4, a5, a6, a7, a8, a9, a10, a11⟩, T, rfl, htv, hm, hcap1, hb1⟩
  obtain ⟨pa0, na0, qa0, hsl0⟩ : Slc a0 := htv.cat.slc
  subst hsl0
  obtain ⟨pa1, na1, qa1, hsl1⟩ : Slc a1 := htv.cls.slc
  subst hsl1
  obtain ⟨pa2, na2, qa2, hsl2⟩ : Slc a2 := htv.joi.slc
  subst hsl2
  obtain ⟨pa3, na3, qa3, hsl3⟩ : Slc a3 := htv.bid.slc
  subst hsl3
  obtain ⟨pa4, na4, qa4, hsl4⟩ : Slc a4 := htv.scr.slc
  subst hsl4
  obtain ⟨pa5, na5, qa5, hsl5⟩ : Slc a5 := htv.sta.slc
  subst hsl5
  obtain ⟨pa6, na6, qa6, hsl6⟩ : Slc a6 := htv.ign.slc
  subst hsl6
  obtain ⟨pa7, na7, qa7, hsl7⟩ : Slc a7 := htv.ext.slc
  subst hsl7
  obtain ⟨pa8, na8, qa8, hsl8⟩ : Slc a8 := htv.map.slc
  subst hsl8
  obtain ⟨pa9, na9, qa9, hsl9⟩ : Slc a9 := htv.dec.slc
  subst hsl9
  obtain ⟨pa10, na10, qa10, hsl10⟩ : Slc a10 := htv.exc.slc
  subst hsl10
  obtain ⟨pa11, na11, qa11, hsl11⟩ : Slc a11 := htv.pro.slc
  subst hsl11
  have hba1 : Below w1.heap.size w1 (w1.alloc (.cells (tabCells ⟨.slice pa0 na0 qa0, .slice pa1 na1 qa1, .slice pa2 na2 qa2, .slice pa3 na3 qa3, .slice pa4 na4 qa4, .slice pa5 na5 qa5, .slice pa6 na6 qa6, .slice pa7 na7 qa7, .slice pa8 na8 qa8, .slice pa9 na9 qa9, .slice pa10 na10 qa10, .slice pa11 na11 qa11⟩) 26)) := (Below.refl _ _).alloc (Nat.le_refl _) _
  have HT1 : Hid (TabV (w1.alloc (.cells (tabCells ⟨.slice pa0 na0 qa0, .slice pa1 na1 qa1, .slice pa2 na2 qa2, .slice pa3 na3 qa3, .slice pa4 na4 qa4, .slice pa5 na5 qa5, .slice pa6 na6 qa6, .slice pa7 na7 qa7, .slice pa8 na8 qa8, .slice pa9 na9 qa9, .slice pa10 na10 qa10, .slice pa11 na11 qa11⟩) 26)) ⟨.slice pa0 na0 qa0, .slice pa1 na1 qa1, .slice pa2 na2 qa2, .slice pa3 na3 qa3, .slice pa4 na4 qa4, .slice pa5 na5 qa5, .slice pa6 na6 qa6, .slice pa7 na7 qa7, .slice pa8 na8 qa8, .slice pa9 na9 qa9, .slice pa10 na10 qa10, .slice pa11 na11 qa11⟩ T) := htv.below hba1
  have HX1 : Hid (BoxT (w1.alloc (.cells (tabCells ⟨.slice pa0 na0 qa0, .slice pa1 na1 qa1, .slice pa2 na2 qa2, .slice pa3 na3 qa3, .slice pa4 na4 qa4, .slice pa5 na5 qa5, .slice pa6 na6 qa6, .slice pa7 na7 qa7, .slice pa8 na8 qa8, .slice pa9 na9 qa9, .slice pa10 na10 qa10, .slice pa11 na11 qa11⟩) 26)) w1.heap.size ⟨.slice pa0 na0 qa0, .slice pa1 na1 qa1, .slice pa2 na2 qa2, .slice pa3 na3 qa3, .slice pa4 na4 qa4, .slice pa5 na5 qa5, .slice pa6 na6 qa6, .slice pa7 na7 qa7, .slice pa8 na8 qa8, .slice pa9 na9 qa9, .slice pa10 na10 qa10, .slice pa11 na11 qa11⟩) := BoxT.new _ _ _
  have HB1 : Hid (Below w.heap.size w (w1.alloc (.cells (tabCells ⟨.slice pa0 na0 qa0, .slice pa1 na1 qa1, .slice pa2 na2 qa2, .slice pa3 na3 qa3, .slice pa4 na4 qa4, .slice pa5 na5 qa5, .slice pa6 na6 qa6, .slice pa7 na7 qa7, .slice pa8 na8 qa8, .slice pa9 na9 qa9, .slice pa10 na10 qa10, .slice pa11 na11 qa11⟩) 26))) := hb1.trans (hba1.mono hb1.size)
  have HM := Lib.hid hm
  have HCAP : Hid (CapOf ⟨.slice pa0 na0 qa0, .slice pa1 na1 qa1, .slice pa2 na2 qa2, .slice pa3 na3 qa3, .slice pa4 na4 qa4, .slice pa5 na5 qa5, .slice pa6 na6 qa6, .slice pa7 na7 qa7, .slice pa8 na8 qa8, .slice pa9 na9 qa9, .slice pa10 na10 qa10, .slice pa11 na11 qa11⟩) := hcap1
  clear htv hm hcap1 hb1 hba1
  simp only [tabCells] at HT1 HX1 HB1
  go_wp2_with fail
  generalize (w1.alloc (.cells #[.slice pa0 na0 qa0, .slice pa1 na1 qa1, .slice pa2 na2 qa2, .slice pa3 na3 qa3, .slice pa4 na4 qa4, .slice pa5 na5 qa5, .slice pa6 na6 qa6, .slice pa7 na7 qa7, .slice pa8 na8 qa8, .slice pa9 na9 qa9, .slice pa10 na10 qa10, .slice pa11 na11 qa11] 26)) = W at HT1 HX1 HB1 ⊢
  generalize w1.heap.size = g at HX1 ⊢
  generalize (⟨.slice pa0 na0 qa0, .slice pa1 na1 qa1, .slice pa2 na2 qa2, .slice pa3 na3 qa3, .slice pa4 na4 qa4, .slice pa5 na5 qa5, .slice pa6 na6 qa6, .slice pa7 na7 qa7, .slice pa8 na8 qa8, .slice pa9 na9 qa9, .slice pa10 na10 qa10, .slice pa11 na11 qa11⟩ : TV) = x at HT1 HX1 HCAP
  have HE : Hid (LEnv w g x T W) := ⟨HT1.out, HX1.out, HB1.out⟩
  clear HT1 HX1 HB1
  obtain ⟨j0, HJ, hj5⟩ := pickN_nm n1 5 (by omega)
  refine (pickN_at n1 5 j0 _ (by omega) (by omega) HJ).mono ?_
  rintro e w2 ⟨rfl, rfl⟩
  obtain ⟨c, hc⟩ : ∃ c : Int, 7680 + (j0 : Int) = c := ⟨_, rfl⟩
  have hc1 : 7680 ≤ c ∧ c ≤ 7684 := by omega
  obtain ⟨hc1, hc2⟩ := hc1
  have HSC : Hid (scaB c = true) := by unfold Hid scaB; simp; omega
  obtain ⟨D, hL⟩ : ∃ L, Hid (oneT T c = L) := ⟨_, rfl⟩
  have HLL : Hid (D.length ≤ 17592186043904) := by unfold Hid; rw [← hL.out]; exact oneT_lenB _ _
  have HLT : Hid ((D == D) = true) := by simp [Hid]
  have HONE : Hid (∀ W, TabV W x T → Rsv W → Calls Tryz.prog 11 #[x.agg, .int .i64 c] W (NRet D W)) := fun W h1 h2 => dcmOne_at x T c D W h1 h2 hL
  have HRON : Hid (∀ W, TabV W x T → Calls Tryz.prog 12 #[x.agg, .int .i64 c] W (GivesL D W)) := fun W h1 => rone_at x T c D W h1 HCAP.out hL
  have HDX : Hid (D = expT T c) := by unfold Hid; rw [← hL.out]; unfold oneT; rw [if_pos ⟨HSC.out, HM.out.check⟩]
  obtain ⟨d, hd⟩ : ∃ d, D.length = d := ⟨_, rfl⟩
  have hd1 : 1 ≤ d ∧ d ≤ 18 := by rw [← hd, HDX.out]; exact exp_len HM.out.check c
  obtain ⟨hd1, hd18⟩ := hd1
  have HD := Lib.hid hd
  clear hd HJ
  obtain ⟨⟨k0, k1, k2, k3, k4, k5⟩, ⟨k6, k7, k8, k9, k10, k11⟩⟩ := HE.out.box.load
  go_wp2_with fail
  refine (HONE.out _ HE.out.tab (HR.out.below HE.out.bel)).mono ?_
  rintro e w3 ⟨v3, rfl, ho3, hb⟩
  obtain ⟨pD, cD, e3, hi3⟩ := ho3.inn
  rw [HD.out] at e3
  subst e3
  replace HE := Lib.hid (HE.out.step hb)
  have HI3 := Lib.hid hi3
  clear ho3 hb hi3 k0 k1 k2 k3 k4 k5 k6 k7 k8 k9 k10 k11
  have dd1 : decide ((d : Int) < 1) = false := decide_eq_false (by omega)
  have dd2 : decide ((18 : Int) < (d : Int)) = false := decide_eq_false (by omega)
  obtain ⟨⟨k0, k1, k2, k3, k4, k5⟩, ⟨k6, k7, k8, k9, k10, k11⟩⟩ := HE.out.box.load
  go_wp2_with fail
  refine (HRON.out _ HE.out.tab).mono ?_
  rintro e w4 ⟨p4, m4, c4, rfl, hl4, hm4, hi4, hb⟩
  replace HE := Lib.hid (HE.out.step hb)
  replace HI3 := Lib.hid (HI3.out.below hb)
  have HI4 := Lib.hid hi4
  have HL4 := Lib.hid hl4
  clear hb hi4 hl4 k0 k1 k2 k3 k4 k5 k6 k7 k8 k9 k10 k11
  go_wp2_with fail
  refine (same_at (.slice pD d cD) (.slice p4 m4 c4) D D true _ (slice_inV HD.out (by omega) HI3.out) (slice_inV HL4.out hm4 HI4.out) HLT).mono ?_
  rintro e w5 ⟨rfl, hb⟩
  replace HE := Lib.hid (HE.out.step hb)
  clear hb HI3 HI4 HL4 hm4
  obtain ⟨q, hq⟩ : ∃ q, 4096 / d = q := ⟨_, rfl⟩
  have hqd : q * d ≤ 4096 := by rw [← hq]; exact Nat.div_mul_le_self 4096 d
  have hq227 : 227 ≤ q := by rw [← hq]; exact (Nat.le_div_iff_mul_le (by omega)).2 (by omega)
  have hq4 : q ≤ 4096 := by rw [← hq]; exact Nat.div_le_self 4096 d
  have hq2 : (4096 : Int) / (d : Int) = (q : Int) := by rw [← hq]; exact (Int.natCast_ediv 4096 d).symm
  have hq1 : (4096 : Int).tdiv (d : Int) = (q : Int) := by rw [Int.tdiv_eq_ediv_of_nonneg (by omega)]; exact hq2
  obtain ⟨r, HRR, hr3⟩ := pickN_nm n2 3 (by omega)
  obtain ⟨s, hs⟩ : ∃ s, q + r = s := ⟨_, rfl⟩
  obtain ⟨K, hK⟩ : ∃ K, s - 1 = K := ⟨_, rfl⟩
  obtain ⟨P, hP⟩ : ∃ P, K * d = P := ⟨_, rfl⟩
  have hKb : K ≤ q + 1 := by omega
  have hPb : P ≤ 4114 := by
    rw [← hP]
    have := Nat.mul_le_mul_right d hKb
    rw [Nat.succ_mul] at this
    omega
  have hKP : K ≤ P := by rw [← hP]; exact Nat.le_mul_of_pos_right K (by omega)
  have hK1 : 226 ≤ K := by omega
  have hK2 : K ≤ 4098 := by omega
  have s1 : (q : Int) + (r : Int) = (s : Int) := by omega
  have s2 : IntKind.i64.wrap (s : Int) = (s : Int) := IntWalk.i64_in _ (by omega)
  have s3 : (s : Int) - 1 = (K : Int) := by omega
  have s4 : IntKind.i64.wrap (K : Int) = (K : Int) := IntWalk.i64_in _ (by omega)
  have s5 : IntKind.i64.wrap (q : Int) = (q : Int) := IntWalk.i64_in _ (by omega)
  have hPi : (K : Int) * (d : Int) = (P : Int) := by rw [← hP, Int.natCast_mul]
  have hPw : IntKind.i64.wrap (P : Int) = (P : Int) := IntWalk.i64_in _ (by omega)
  have hdn : (d : Int) ≠ 0 := by omega
  have HP := Lib.hid hP
  have HPI := Lib.hid hPi
  have HPW := Lib.hid hPw
  clear hq hqd hs hK hP hPi hPw HONE HRON
  go_upto_region 6 with (fail)
  go_quiet ((go_at_call 21; exact Calls.quiet_of_same (pickN_q n2 3 r _ (by omega) (by omega) HRR)))
  have HEQ : Hid (∃ wq : World, LEnv w g x T wq) := ⟨_, HE.out⟩
  generalize hwq : World.drewN w5 _ = wq
  have HE2 : Hid (LEnv w g x T wq) := by rw [← hwq]; exact HE.out.step (drew_ref w5 _)
  clear hwq HE HEQ HRR hq1 hq2 s1 s2 s3 s5 hdn
  have hmk := run_make_full K (by omega)
  go_wp2
  go_loopw [12, 50] (fun _ i wr => ∃ j : Nat, j ≤ K ∧ i = .int .i64 j ∧ Hid (Ints wr wq.heap.size (.slice (some ⟨wq.heap.size, 0, none⟩) K K) (List.replicate j c ++ List.replicate (K - j) 0)) ∧ Hid (Below wq.heap.size wq wr)) (fun _ i _ => K - (intOf i).toNat)
  case atStart => exact ⟨0, Nat.zero_le _, rfl, by simpa [Hid] using Ints.full wq wq.heap.size K (Nat.le_refl _) (by omega), (Below.refl _ _).alloc (Nat.le_refl _) _⟩
  case round =>
    obtain ⟨j, hj, rfl, hown, hbel⟩ := hrel
    by_cases hlt : j < K
    · have hlen : (List.replicate j c ++ List.replicate (K - j) 0).length = K := by simp; omega
      obtain ⟨hce, hfr, hge⟩ := hown.out.at_row hlen j hlt
      have hset := hown.out.set hlen j c
      rw [rep_set c j K hlt] at hset
      have HSET := Lib.hid hset
      have HBS : Hid (Below wq.heap.size wq (wr.setCell ⟨wq.heap.size, j, none⟩ (.int .i64 c))) := hbel.out.grown (grownBy_store wr wq.heap.size j (.int .i64 c)) hbel.out.size (fun k e => by injection e with e; omega)
      clear hset hge hlen
      go_wp2
      go_roundw
      case rel => exact ⟨j + 1, by omega, by go_num, HSET, HBS⟩
      case measure => simp [intOf]; omega
    · obtain rfl : j = K := by omega
      have hown2 := hown.out
      rw [Nat.sub_self, List.replicate_zero, List.append_nil] at hown2
      have HE3 := Lib.hid (HE2.out.step hbel.out)
      have HIN := Lib.hid hown2.cells_in
      obtain ⟨F, hF⟩ : ∃ F, Hid (nfdE T (List.replicate j c) = F) := ⟨_, rfl⟩
      obtain ⟨L, hLL⟩ : ∃ L, Hid (nfdL T (List.replicate j c) = L) := ⟨_, rfl⟩
      have hFv : F = if 4096 < P then 7 else 0 := by rw [← hF.out, nfd_rep HM.out.check j c HSC.out, ← HDX.out, HD.out, HP.out]
      obtain ⟨nl, hnl⟩ : ∃ n, L.length = n := ⟨_, rfl⟩
      have hLv : F = 0 → nl = P := fun h => by rw [← hnl, ← hLL.out, nfdL_ok (by rw [hF.out]; exact h), ordS_length, all_rep, ← HDX.out, HD.out, HP.out]
      have hnf := fun W (h1 : TabV W x T) h2 h3 => nfd_at x T (some ⟨wq.heap.size, 0, none⟩) j (List.replicate j c) F L W h1 h2 h3 (by simp; omega) hF hLL
      rw [List.length_replicate] at hnf
      have HNF := Lib.hid hnf
      have HNL := Lib.hid hnl
      have HFV := Lib.hid hFv
      have HLV := Lib.hid hLv
      clear hown2 hFv hLv hnf hnl hF hown hbel
      obtain ⟨⟨k0, k1, k2, k3, k4, k5⟩, ⟨k6, k7, k8, k9, k10, k11⟩⟩ := HE3.out.box.load
      go_wp2_with fail
      refine (HNF.out _ HE3.out.tab (HR.out.below HE3.out.bel) HIN.out).mono ?_
      rintro e w6 ⟨v6, rfl, ho6, hb⟩
      obtain ⟨p6, c6, e6, _⟩ := ho6.inn
      rw [HNL.out] at e6
      subst e6
      replace HE3 := Lib.hid (HE3.out.step hb)
      clear ho6 hb k0 k1 k2 k3 k4 k5 k6 k7 k8 k9 k10 k11 HIN HNF HE2
      by_cases hbig : 4096 < P
      · have hF7 : F = 7 := by have := HFV.out; rwa [if_pos hbig] at this
        subst hF7
        by_cases hKb : 4096 < j
        · have t1 : decide ((4096 : Int) < (j : Int)) = true := decide_eq_true (by omega)
          clear hbig hKb
          go_wp2_with fail
          refine (awake7_any _ (HR.out.below HE3.out.bel)).mono ?_
          rintro e w7 ⟨rfl, hb⟩
          have HBZ := Lib.hid (HE3.out.step hb).bel
          clear hb
          go_wp2
          go_ret
          exact ⟨rfl, HBZ.out⟩
        · have t1 : decide ((4096 : Int) < (j : Int)) = false := decide_eq_false (by omega)
          have t2 : decide ((4096 : Int) < (P : Int)) = true := decide_eq_true (by omega)
          have hPi := HPI.out
          have hPw := HPW.out
          go_wp2_with fail
          refine (awake7_any _ (HR.out.below HE3.out.bel)).mono ?_
          rintro e w7 ⟨rfl, hb⟩
          have HBZ := Lib.hid (HE3.out.step hb).bel
          clear hb
          go_wp2
          go_ret
          exact ⟨rfl, HBZ.out⟩
      · have hF0 : F = 0 := by have := HFV.out; rwa [if_neg hbig] at this
        subst hF0
        obtain rfl : nl = P := HLV.out rfl
        have t1 : decide ((4096 : Int) < (j : Int)) = false := decide_eq_false (by omega)
        have t2 : decide ((4096 : Int) < (nl : Int)) = false := decide_eq_false (by omega)
        have t3 : ((nl : Int) == (nl : Int)) = true := by simp
        have hPi := HPI.out
        have hPw := HPW.out
        go_wp2_with fail
        refine (awake7_any _ (HR.out.below HE3.out.bel)).mono ?_
        rintro e w7 ⟨rfl, hb⟩
        have HBZ := Lib.hid (HE3.out.step hb).bel
        clear hb
        go_wp2
        go_ret
        exact ⟨rfl, HBZ.out⟩

end Go.Proofs.YtgekoeobllhnnaaGreatDoor
