/-
  The walk of RangesNormal.
-/
import Derived.Test.YtkapjihjbflliaaRanLaw
namespace Go.Proofs.Ytkapjihjbflliaa.rangesNormalW
open Go.RowKit

theorem named (l : List Sp) (c : Int) : ∃ v b, Hid (findS l c = (v, b)) := ⟨_, _, rfl⟩

theorem nrm_at {l : List Sp} (h : nrmB l = true) (j : Nat) (hj : j + 1 < l.length) : touch (l.getD j sp0) (l.getD (j + 1) sp0) = false := by
  induction l generalizing j with
  | nil => simp at hj
  | cons s r ih =>
    cases r with
    | nil => simp at hj
    | cons t r =>
      have h2 := nrm_cons2.1 h
      cases j with
      | zero => simpa using h2.1
      | succ j => simpa using ih h2.2 j (by simpa using hj)

theorem ownLen {L : List Sp} {w : World} {e : Ending} {w' : World} (h : OwnAt L w e w') {n : Nat} (hn : L.length = n) : ∃ p c, e = .returned (.slice p n c) ∧ Hid (SpIn w' p L) ∧ Below w.heap.size w w' := by
  subst hn
  obtain ⟨p, c, h1, _, h2, h3⟩ := h
  exact ⟨p, c, h1, h2, h3⟩

set_option maxRecDepth 100000 in
set_option maxHeartbeats 4000000 in
theorem walk (a0 : Option Addr) (len0 cap0 : Nat) (z0 : List Int) (w : World) (w0 : IsRow .i64 w a0 len0 cap0 z0) :
    Calls Try.prog 7 #[.slice a0 len0 cap0] w fun e w' => e = .returned (.bool true) ∧ Below w.heap.size w w' := by
  obtain ⟨zs, hz, hzl, hzs, _⟩ := w0.inn
  simp only [IntKind.bits] at hzl
  have hz1 : len0 ≤ 17592186043904 := by omega
  have HZ := Lib.hid hz.symm
  have HZI := Lib.hid hzs
  clear hz hzs w0 hzl
  obtain ⟨A, hA⟩ : ∃ A, Hid (spansS zs = A) := ⟨_, rfl⟩
  have hvA := spansS_valid zs
  rw [hA.out] at hvA
  have hlA : Hid (A.length ≤ maxLen) := by have := valid_len hvA; unfold Hid maxLen; omega
  have hascA := valid_asc hvA
  have hjl := join_length A
  have hA256 := valid_len hvA
  obtain ⟨N, hN⟩ : ∃ N, joinS A = N := ⟨_, rfl⟩
  have hNasc : ascB 0 N = true := by rw [← hN]; exact join_asc hascA
  have hNnrm : nrmB N = true := by rw [← hN]; exact join_nrm hascA
  have hNval : ∀ c, val N c = val A c := fun c => by rw [← hN]; exact join_val hascA c
  have hcnt : cnt N = cnt A := by rw [← hN]; exact cnt_join A
  rw [hN] at hjl
  have hNl : N.length ≤ 256 := by omega
  have hvN : validS N = true := by rw [validS, hNasc, decide_eq_true hNl]; rfl
  have N1 : Hid (normS A = N) := by unfold Hid normS; rw [if_pos hvA, hN]
  have N2 : Hid (normS N = N) := by unfold Hid normS; rw [if_pos hvN]; exact join_of_nrm hNasc hNnrm
  have K1 : Hid (checkS N 0 1114111 = true) := by unfold Hid; rw [check_all]; exact hvN
  obtain ⟨ct, C1⟩ : ∃ z, Hid (cntS A = z) := ⟨_, rfl⟩
  have C2 : Hid (cntS N = ct) := by unfold Hid; rw [← C1.out, cntS, cntS, if_pos hvA, if_pos hvN, hcnt]
  have F1 : Hid (∀ c, findS N c = findS A c) := by intro c; rw [findS, findS, if_pos hvN, if_pos hvA, hNval]
  have hlN : Hid (N.length ≤ maxLen) := by unfold Hid maxLen; omega
  have NA := Lib.hid hNasc
  have NN := Lib.hid hNnrm
  obtain ⟨n, hn⟩ : ∃ n, N.length = n := ⟨_, rfl⟩
  rw [hn] at hNl
  have HN := Lib.hid hn
  clear hvA hascA hjl hA256 hN hNasc hNnrm hNval hcnt hvN hn
  go_enter Try.func7, Try.ntmps7
  go_wp2_with fail
  refine (kspans_at a0 cap0 len0 zs A _ HZI.out HZ hz1 hA).mono ?_
  rintro e w2 ⟨pa, ca, rfl, _, ia, hb⟩
  have HBl := Lib.hid hb
  clear hb
  go_wp2_with fail
  refine ((normal_at pa _ ca A N _ rfl hlA.out ia.out N1).mono fun _ _ h => ownLen h HN.out).mono ?_
  rintro e w3 ⟨pn, cn, rfl, iN, hb⟩
  replace ia := Lib.hid (ia.out.below hb)
  replace HBl := Lib.hid (HBl.out.trans (hb.mono HBl.out.size))
  clear hb
  have hnm : n ≤ maxLen := by unfold maxLen; omega
  have HNM := Lib.hid hnm
  clear hnm
  go_wp2_with fail
  refine (rcheck_at pn n cn N 0 1114111 true _ HN HNM.out iN.out K1).mono ?_
  rintro e w4 ⟨rfl, hb⟩
  replace ia := Lib.hid (ia.out.below hb)
  replace iN := Lib.hid (iN.out.below hb)
  replace HBl := Lib.hid (HBl.out.trans (hb.mono HBl.out.size))
  clear hb
  go_wp2_with fail
  refine ((normal_at pn n cn N N _ HN HNM.out iN.out N2).mono fun _ _ h => ownLen h HN.out).mono ?_
  rintro e w5 ⟨pm, cm, rfl, iM, hb⟩
  replace ia := Lib.hid (ia.out.below hb)
  replace iN := Lib.hid (iN.out.below hb)
  replace HBl := Lib.hid (HBl.out.trans (hb.mono HBl.out.size))
  clear hb
  go_wp2_with fail
  refine (sameS_at _ _ _ _ _ _ N _ iM.out iN.out HN HN hlN.out).mono ?_
  rintro e w6 ⟨rfl, hb⟩
  replace ia := Lib.hid (ia.out.below hb)
  replace iN := Lib.hid (iN.out.below hb)
  replace HBl := Lib.hid (HBl.out.trans (hb.mono HBl.out.size))
  clear hb
  go_wp2_with fail
  refine (count_at pn n cn N ct _ HN HNM.out iN.out C2).mono ?_
  rintro e w7 ⟨rfl, hb⟩
  replace ia := Lib.hid (ia.out.below hb)
  replace iN := Lib.hid (iN.out.below hb)
  replace HBl := Lib.hid (HBl.out.trans (hb.mono HBl.out.size))
  clear hb
  go_wp2_with fail
  refine (rcount_at pa _ ca A ct _ rfl hlA.out ia.out C1).mono ?_
  rintro e w8 ⟨rfl, hb⟩
  replace ia := Lib.hid (ia.out.below hb)
  replace iN := Lib.hid (iN.out.below hb)
  replace HBl := Lib.hid (HBl.out.trans (hb.mono HBl.out.size))
  clear hb iM
  go_wp2
  go_loopw [5] (fun iv wr => ∃ j : Nat, j ≤ 256 ∧ iv = .int .i64 (j + 1) ∧ Hid (Below w8.heap.size w8 wr)) (fun iv _ => (300 - intOf iv).toNat)
  case atStart => exact ⟨0, by omega, rfl, Below.refl _ _⟩
  case round =>
    obtain ⟨j, hj, rfl, hbel⟩ := hrel
    by_cases hlt : j + 1 < n
    · have hj0 : j < N.length := by rw [HN.out]; omega
      have hj1 : j + 1 < N.length := by rw [HN.out]; omega
      obtain ⟨b, off, rfl, c1, c2, c3⟩ := (iN.out.below hbel.out) j hj0
      obtain ⟨b', off', e', d1, d2, d3⟩ := (iN.out.below hbel.out) (j + 1) hj1
      injection e' with e'
      injection e' with e1 e2
      subst e1; subst e2
      have ht := nrm_at NN.out j hj1
      obtain ⟨a1, a2, a3⟩ := asc_getD NA.out j hj0
      obtain ⟨⟨f, t, v⟩, hs⟩ : ∃ s, N.getD j sp0 = s := ⟨_, rfl⟩
      obtain ⟨⟨f2, t2, v2⟩, hs2⟩ : ∃ s, N.getD (j + 1) sp0 = s := ⟨_, rfl⟩
      rw [hs] at c1 c2 c3 ht a1 a2 a3
      rw [hs2] at d1 d2 d3 ht
      simp only at c1 c2 c3 d1 d2 d3 a1 a2 a3
      clear hs hs2
      have hcase : ((f2 == t + 1) = false) ∨ ((f2 == t + 1) = true ∧ (v2 == v) = false) := by
        simp only [touch, Bool.and_eq_false_iff, decide_eq_false_iff_not] at ht
        by_cases h : f2 = t + 1
        · refine .inr ⟨by simp [h], ?_⟩
          rw [beq_eq_false_iff_ne]
          rintro rfl
          rcases ht with ht | ht
          · exact ht h.symm
          · exact ht rfl
        · exact .inl (by simp [h])
      have hx0 : (0 : Int) ≤ (j : Int) := by omega
      have hx1 : (j : Int) < (n : Int) := by omega
      have hx2 : (0 : Int) ≤ (j : Int) + 1 := by omega
      have hx3 : (j : Int) + 1 < (n : Int) := by omega
      have hw1 : IntKind.i64.wrap ((j : Int) + 1 - 1) = j := by rw [IntWalk.i64_in _ (by omega)]; omega
      have hw2 : IntKind.i64.wrap (j : Int) = j := IntWalk.i64_in _ (by omega)
      have hw3 : IntKind.i64.wrap (t + 1) = t + 1 := IntWalk.i64_in _ (by omega)
      clear ht
      rcases hcase with hb1 | ⟨hb1, hb2⟩
      all_goals
        go_wp2
        go_quiet (fail)
        go_wp2
        go_roundw
        case rel => exact ⟨j + 1, by omega, by go_num, below_drewN_sp hbel.out _⟩
        case measure => simp [intOf]; omega
    · have HX := Lib.hid (HBl.out.trans (hbel.out.mono HBl.out.size))
      have IA := Lib.hid (ia.out.below hbel.out)
      have IN := Lib.hid (iN.out.below hbel.out)
      obtain ⟨w9, rfl⟩ : ∃ w9 : World, w9 = wr := ⟨_, rfl⟩
      clear hbel
      have hd : decide ((j : Int) + 1 < (n : Int)) = false := by simp; omega
      go_wp2
      go_loopw [6] (fun cv wr => ∃ z : Int, 0 ≤ z ∧ z ≤ 90 ∧ cv = .int .i64 z ∧ Hid (Below w9.heap.size w9 wr)) (fun cv _ => (90 - intOf cv).toNat)
      case atStart => exact ⟨0, by omega, by omega, rfl, Below.refl _ _⟩
      case round =>
        obtain ⟨z, z1, z2, rfl, hbel⟩ := hrel
        by_cases hlz : z < 90
        · obtain ⟨v, ok, hF⟩ := named A z
          have hG : Hid (findS N z = (v, ok)) := by unfold Hid; rw [F1.out z, hF.out]
          go_wp2_with fail
          refine (rfind_at pa _ ca A z v ok _ rfl hlA.out (IA.out.below hbel.out) hF).mono ?_
          rintro e w10 ⟨rfl, hb⟩
          have hb5 := Lib.hid (hbel.out.trans (hb.mono hbel.out.size))
          clear hb
          go_wp2_with fail
          refine (find_at pn n cn N z v ok _ HN HNM.out (IN.out.below hb5.out) hG).mono ?_
          rintro e w11 ⟨rfl, hb⟩
          have hb6 := Lib.hid (hb5.out.trans (hb.mono hb5.out.size))
          clear hb
          go_wp2
          go_roundw
          case rel => exact ⟨z + 1, by omega, by omega, by go_num, hb6⟩
          case measure => simp [intOf]; omega
        · have HY := Lib.hid (HX.out.trans (hbel.out.mono HX.out.size))
          go_wp2_with fail
          refine (awake_any _).mono ?_
          rintro e w10 ⟨rfl, hb⟩
          have hb5 := Lib.hid (HY.out.trans (hb.mono HY.out.size))
          clear hb
          go_wp2
          go_ret
          exact ⟨rfl, hb5.out⟩

end Go.Proofs.Ytkapjihjbflliaa.rangesNormalW
