/-
  The walk of AlabelLimits.
-/
import Derived.Test.YtmnnpfohjffniaaPkZZF
set_option linter.unusedSimpArgs false
set_option linter.unusedVariables false
namespace Go.Proofs.Ytmnnpfohjffniaa.alabelLimitsW
open Go.RowKit

theorem lpick_at (v n q : Int) (w : World) (h0 : 1 ≤ n) (h1 : n ≤ 1073741824) (hq : Hid (pickS v n = q)) :
    Calls Try.prog 9 #[.int .i64 v, .int .i64 n] w fun e w' => e = .returned (.int .i64 q) ∧ w' = w := hq.out ▸ (pick_any v n w h0 h1).mono fun _ _ h => ⟨h.1, h.2.symm⟩

theorem rep_lab (n : Nat) (c : Int) (hn : 1 ≤ n) (h0 : 97 ≤ c) (h1 : c ≤ 122) : labS (List.replicate n c) = if 63 < n then ([], 11) else (List.replicate n c, 0) := by
  have ha : ascQ (List.replicate n c) = true := by
    unfold ascQ
    rw [List.all_eq_true]
    intro x hx
    rw [(List.mem_replicate.1 hx).2]
    simp only [Bool.and_eq_true, decide_eq_true_eq]
    omega
  rw [labS_asc (by intro e; have := congrArg List.length e; simp at this; omega) ha]
  unfold longE
  rw [List.length_replicate]

theorem rep_pts (n : Nat) (c : Int) (hn : 4 ≤ n) (h0 : 97 ≤ c) (h1 : c ≤ 122) : ptsS (List.replicate n c) = if 63 < n then ([], 11) else (List.replicate n c, 0) := by
  have hany : ¬ ((List.replicate n c).any fun c => decide (127 < c)) = true := by
    rw [Bool.not_eq_true, List.any_eq_false]
    intro x hx
    rw [(List.mem_replicate.1 hx).2]
    simp; omega
  have hx : isX (List.replicate n c) = false := by
    cases h : isX (List.replicate n c) with
    | false => rfl
    | true =>
      unfold isX at h
      rw [List.take_replicate, Nat.min_eq_left hn, lowS_no (by intro x hx; rw [(List.mem_replicate.1 hx).2]; omega)] at h
      simp [xnS, List.replicate_succ] at h
      omega
  unfold ptsS
  rw [if_neg (by intro e; have := congrArg List.length e; simp at this; omega), if_neg hany, List.length_replicate]
  split
  · rfl
  · first | rfl | rw [if_pos hx]

theorem row_inL {w : World} {g n B : Nat} {xs : List Int} (h : w.ownsRow B 3 1 (.slice (some ⟨g, 0, none⟩) n n) n (xs.map (.int .i64))) (hx : xs.length = n) : IntsIn w (some ⟨g, 0, none⟩) xs := by
  intro k hk
  refine ⟨g, 0, rfl, ?_⟩
  rw [Nat.zero_add, h.cellAt k (by omega)]
  simp [hk]

theorem rep_next (n k : Nat) (c : Int) (h : k < n) : (padT (List.replicate k c) n).set k c = padT (List.replicate (k + 1) c) n := by
  have := padT_set (List.replicate k c) n c (by simpa using h)
  rw [List.length_replicate, ← List.replicate_succ'] at this
  exact this
theorem rep_zero (n k : Nat) (c : Int) (t : IntKind) (h : k < n) : ((padT (List.replicate k c) n).map (Value.int t))[k]? = some (.int t 0) := by
  have := padT_at (List.replicate k c) n t (by simpa using h)
  rwa [List.length_replicate] at this
theorem rep_full (n : Nat) (c : Int) : padT (List.replicate n c) n = List.replicate n c := padT_full _ _ (by simp)

set_option maxRecDepth 100000 in
set_option maxHeartbeats 4000000 in
theorem walk (a0 : Int) (a1 : Int) (w0 : (Lit.int .i64 a0).wf = true) (w1 : (Lit.int .i64 a1).wf = true) (w : World) :
    Calls Try.prog 6 #[.int .i64 a0, .int .i64 a1] w fun e w' => e = .returned (.bool true) ∧ Below w.heap.size w w' := by
  clear w0 w1
  obtain ⟨i0, hi, hz0, hz1, hz2⟩ := info_parts Try.info5
  obtain ⟨i1, hi', hz0', hz1', hz2'⟩ := info_parts Try.info3
  obtain ⟨q, HQ, hq0, hq1⟩ : ∃ q, Hid (pickS a0 3 = q) ∧ 0 ≤ q ∧ q < 3 := ⟨_, rfl, pickS_bd _ _ (by omega)⟩
  obtain ⟨u, HU, hu0, hu1⟩ : ∃ u, Hid (pickS a1 26 = u) ∧ 0 ≤ u ∧ u < 26 := ⟨_, rfl, pickS_bd _ _ (by omega)⟩
  obtain ⟨c, hc⟩ : ∃ c, 97 + u = c := ⟨_, rfl⟩
  have hc0 : 97 ≤ c := by omega
  have hc1 : c ≤ 122 := by omega
  have hwc : IntKind.u8.wrap c = c := by rw [IntKind.wrap_u8]; omega
  obtain ⟨n, hn1⟩ : ∃ n : Nat, 63 + q - 1 = (n : Int) := ⟨(63 + q - 1).toNat, by omega⟩
  have hnb : n ≤ 64 := by omega
  have hnb2 : 62 ≤ n := by omega
  obtain ⟨X, er, hX⟩ : ∃ X er, labS (List.replicate n c) = (X, er) := ⟨_, _, rfl⟩
  obtain ⟨out, er2, hD⟩ : ∃ out er, ptsS (List.replicate n c) = (out, er) := ⟨_, _, rfl⟩
  have he1 := rep_lab n c (by omega) hc0 hc1
  have hd1 := rep_pts n c (by omega) hc0 hc1
  rw [hX] at he1
  rw [hD] at hd1
  obtain ⟨S, hS⟩ : ∃ S, strOfNums (List.replicate n c) = S := ⟨_, rfl⟩
  obtain ⟨R, hR⟩ : ∃ R, strOfNums X = R := ⟨_, rfl⟩
  have hcase : (63 < n ∧ er = 11 ∧ er2 = 11) ∨ (¬ 63 < n ∧ er = 0 ∧ er2 = 0 ∧ R = S ∧ out = List.replicate n c) := by
    by_cases h : 63 < n
    · rw [if_pos h] at he1 hd1
      injection he1 with _ h1
      injection hd1 with _ h2
      exact .inl ⟨h, h1, h2⟩
    · rw [if_neg h] at he1 hd1
      injection he1 with h3 h1
      injection hd1 with h4 h2
      exact .inr ⟨h, h1, h2, by rw [← hR, ← hS, h3], h4⟩
  have hSs : S.size ≤ 140737488355328 := by rw [← hS, strOfNums_size]; simp; omega
  have HDS : Hid (ptsS (nums S) = (out, er2)) := by
    unfold Hid
    rw [← hS, nums_of _ (by
      intro x hx
      rw [(List.mem_replicate.1 hx).2]; omega)]
    exact hD
  have HN1 := Lib.hid hn1
  have HX := Lib.hid hX
  have HR := Lib.hid hR
  have HS := Lib.hid hS
  have HC := Lib.hid hcase
  clear hn1 hX hR hS hcase he1 hd1 hD
  go_enter Try.func6, Try.ntmps6
  go_wp2_with fail
  refine (lpick_at _ _ q _ (by omega) (by omega) HQ).mono ?_
  rintro e w' ⟨rfl, rfl⟩
  go_wp2_with (first
    | (at_make; refine wpList_make_full _ rfl _ _ 22 rfl w'.heap.size 3 i1 (.int .i64 0) 1 Try.underlying22 hi' hz0' hz1' .i64 .i64 _ _ n rfl rfl HN1.out HN1.out (by rw [hz2']; omega) (by unfold maxLen; omega) (Nat.le_refl _) ?_; intro w0 hown0 hgrow0)
    | (at_make; refine wpList_make_full _ rfl _ _ 34 rfl w0.heap.size 5 i0 (.int .u8 0) 1 Try.underlying34 hi hz0 hz1 .i64 .i64 _ _ n rfl rfl HN1.out HN1.out (by rw [hz2]; omega) (by unfold maxLen; omega) (Nat.le_refl _) ?_; intro w1 hown1 hgrow1))
  have hrow0 : w0.ownsRow w'.heap.size 3 1 (.slice (some ⟨w'.heap.size, 0, none⟩) n n) n ((padT (List.replicate 0 c) n).map (.int .i64)) := by
    have e : (madeCells (Value.int .i64 0).cells (n * 1)).toList = List.replicate (n * 1) (.int .i64 0) := toList_madeCells_one _ _
    rw [e] at hown0
    simpa [padT] using hown0
  have hbel0 : Below w'.heap.size w' w0 := (Below.refl _ _).grown hgrow0 (Nat.le_refl _) (by simp)
  have hlt0 : w'.heap.size < w0.heap.size := (World.ownsRow.lt hrow0 w'.heap.size rfl).2
  have HR0 := Lib.hid hrow0
  have HB0 := Lib.hid hbel0
  clear hrow0 hbel0 hown0 hgrow0
  have hrow1 : w1.ownsRow w0.heap.size 5 1 (.slice (some ⟨w0.heap.size, 0, none⟩) n n) n ((padT (List.replicate 0 c) n).map (.int .u8)) := by
    have e : (madeCells (Value.int .u8 0).cells (n * 1)).toList = List.replicate (n * 1) (.int .u8 0) := toList_madeCells_one _ _
    rw [e] at hown1
    simpa [padT] using hown1
  have HA0 := Lib.hid (HR0.out.kept hgrow1 (.inr (by simp [Value.ownBlock])))
  have HA1 := Lib.hid hrow1
  have HAB := Lib.hid (HB0.out.grown hgrow1 HB0.out.size (by simp))
  clear hrow1 hown1 hgrow1 HR0 HB0
  go_loopw [23] (fun i wr => ∃ k : Nat, k ≤ n ∧ i = .int .i64 k ∧ Hid (wr.ownsRow w'.heap.size 3 1 (.slice (some ⟨w'.heap.size, 0, none⟩) n n) n ((padT (List.replicate k c) n).map (.int .i64))) ∧ Hid (wr.ownsRow w0.heap.size 5 1 (.slice (some ⟨w0.heap.size, 0, none⟩) n n) n ((padT (List.replicate k c) n).map (.int .u8))) ∧ Hid (Below w'.heap.size w' wr)) (fun i _ => n - (intOf i).toNat)
  case atStart => exact ⟨0, Nat.zero_le _, rfl, HA0, HA1, HAB⟩
  case round =>
    obtain ⟨k, hk, rfl, ha, hb, hbel⟩ := hrel
    by_cases hlt : k < n
    · have k0 := ha.out.cellAt k (by omega)
      rw [rep_zero n k c .i64 hlt] at k0
      have f0 := ha.out.frozenAt k
      have hst := ha.out.stored k (.int .i64 c)
      rw [← List.map_set, rep_next n k c hlt] at hst
      have HA2 := Lib.hid hst.1
      have HB1 := Lib.hid (hb.out.kept hst.2 (.inr (by simp [Value.ownBlock]; omega)))
      have HB2 := Lib.hid (hbel.out.setCell (p := ⟨w'.heap.size, k, none⟩) (Nat.le_refl _) (.int .i64 c))
      have k1 := HB1.out.cellAt k (by omega)
      rw [rep_zero n k c .u8 hlt] at k1
      have f1 := HB1.out.frozenAt k
      have hst2 := HB1.out.stored k (.int .u8 c)
      rw [← List.map_set, rep_next n k c hlt] at hst2
      have HA3 := Lib.hid hst2.1
      have HA4 := Lib.hid (HA2.out.kept hst2.2 (.inr (by simp [Value.ownBlock]; omega)))
      have HB3 := Lib.hid (HB2.out.setCell (p := ⟨w0.heap.size, k, none⟩) (Nat.le_of_lt hlt0) (.int .u8 c))
      clear hst ha hb hst2
      go_wp2_with (go_at_call 9; refine (lpick_at _ _ u _ (by omega) (by omega) HU).mono ?_; rintro e w3 ⟨rfl, rfl⟩)
      go_roundw
      case rel => exact ⟨k + 1, by omega, by go_num, HA4, HA3, HB3⟩
      case measure => simp [intOf]; omega
    · obtain rfl : k = n := by omega
      rw [rep_full] at ha hb
      have HIN := Lib.hid (row_inL ha.out (by simp))
      have HLN : Hid ((List.replicate k c).length = k) := by simp [Hid]
      have hcv0 := conv_own hb.out
      rw [HS.out] at hcv0
      go_wp2_with fail
      refine (alab_at (some ⟨w'.heap.size, 0, none⟩) k k (List.replicate k c) X er R _ HIN.out HLN (Nat.le_refl _) (by omega) HX HR).mono ?_
      rintro e w5 ⟨rfl, hb5⟩
      have HB5 := Lib.hid (hbel.out.trans (hb5.mono hbel.out.size))
      have hrow5 := ownsRow_below hb.out hb5
      have hcv := conv_own hrow5
      rw [HS.out] at hcv
      have HROW := Lib.hid hrow5
      replace HIN := Lib.hid (HIN.out.below hb5)
      clear hb5 hrow5 ha hb hcv0
      go_wp2_with fail
      refine (adecode_at S out er2 _ hSs HDS).mono ?_
      rintro e w6 ⟨v6, rfl, hi6, hb6⟩
      have HB6 := Lib.hid (HB5.out.trans (hb6.mono HB5.out.size))
      obtain ⟨p6, c6, rfl, hin6, _⟩ := ints_capA hi6
      have HI6 := Lib.hid hin6
      obtain ⟨ol, hol⟩ : ∃ ol, out.length = ol := ⟨_, rfl⟩
      have HOL := Lib.hid hol
      rw [hol]
      replace HROW := Lib.hid (ownsRow_below HROW.out hb6)
      replace HIN := Lib.hid (HIN.out.below hb6)
      clear hb6 hi6 hcv HB5 hin6 hol
      rcases HC.out with ⟨h1, rfl, rfl⟩ | ⟨h1, rfl, rfl, rfl, h2⟩
      · have g1 : (63 : Int) < 63 + q - 1 := by have := HN1.out; omega
        clear HC HX HR HDS HS HOL
        go_wp2_with fail
        refine (awake11_any _).mono ?_
        rintro e w8 ⟨rfl, hb8⟩
        have HB8 := Lib.hid (HB6.out.trans (hb8.mono HB6.out.size))
        clear hb8
        go_wp2
        go_ret
        exact ⟨rfl, HB8.out⟩
      · have HOE := Lib.hid h2
        have g1 : ¬ (63 : Int) < 63 + q - 1 := by have := HN1.out; omega
        have hq2 : (R.toList == R.toList) = true := by simp
        clear h2
        go_wp2_with fail
        refine (awake11_any _).mono ?_
        rintro e w8 ⟨rfl, hb8⟩
        have HB8 := Lib.hid (HB6.out.trans (hb8.mono HB6.out.size))
        have hcv8 := conv_own (ownsRow_below HROW.out hb8)
        rw [HS.out] at hcv8
        replace HIN := Lib.hid (HIN.out.below hb8)
        replace HI6 := Lib.hid (HI6.out.below hb8)
        clear hb8
        go_wp2_with fail
        refine (same11_at _ _ _ _ _ _ (List.replicate k c) _ (by rw [← HOE.out]; exact HI6.out) HIN.out (by simp; unfold maxLen; omega) (by rw [← HOE.out]; exact HOL.out) HLN.out).mono ?_
        rintro e w9 ⟨rfl, hb9⟩
        have HB9 := Lib.hid (HB8.out.trans (hb9.mono HB8.out.size))
        clear hb9
        go_wp2
        go_ret
        exact ⟨rfl, HB9.out⟩

end Go.Proofs.Ytmnnpfohjffniaa.alabelLimitsW
