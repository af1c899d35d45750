/-
  The reference's puny: Encode.
-/
import Derived.Test.YtmnnpfohjffniaaQPunRefA
import Derived.Test.YtmnnpfohjffniaaQPunEncA
import Derived.Deep.LoopGhost
set_option linter.unusedSimpArgs false
set_option linter.unusedVariables false
namespace Go.Proofs.Ytmnnpfohjffniaa
open Go.RowKit
set_option linter.unusedVariables false

/-- What is in place behind the first k. -/
def fK (l : List Int) (k n : Nat) : List Bool := (List.range n).map fun j => decide (j < k) && basB (l.getD j 0)
theorem fK_len (l : List Int) (k n : Nat) : (fK l k n).length = n := by simp [fK]
theorem fK_getD (l : List Int) {k n j : Nat} (h : j < n) : (fK l k n).getD j true = (decide (j < k) && basB (l.getD j 0)) := by
  unfold fK
  rw [List.getD_eq_getElem?_getD, List.getElem?_map, List.getElem?_range h]
  rfl
theorem list_bool_ext {F G : List Bool} (hl : F.length = G.length) (h : ∀ j, j < F.length → F.getD j true = G.getD j true) : F = G := by
  apply List.ext_getElem hl
  intro j h1 h2
  have := h j h1
  rwa [List.getD_eq_getElem?_getD, List.getElem?_eq_getElem h1, List.getD_eq_getElem?_getD, List.getElem?_eq_getElem h2] at this
theorem fK_zero (l : List Int) (n : Nat) : fK l 0 n = List.replicate n false := by
  apply list_bool_ext (by rw [fK_len]; simp)
  intro j hj
  rw [fK_len] at hj
  rw [fK_getD l hj]
  simp [List.getD, List.getElem?_replicate, hj]
theorem fK_yes (l : List Int) {k n : Nat} (hk : k < n) (h : basB (l.getD k 0) = true) : fK l (k + 1) n = (fK l k n).set k true := by
  apply list_bool_ext (by rw [List.length_set, fK_len, fK_len])
  intro j hj
  rw [fK_len] at hj
  by_cases e : k = j
  · subst e
    rw [getD_set_eq _ _ _ (by rw [fK_len]; exact hj), fK_getD l hj, h]; simp
  · rw [getD_set_ne _ _ _ _ e, fK_getD l hj, fK_getD l hj]
    congr 1
    by_cases h2 : j < k
    · rw [decide_eq_true (show j < k + 1 by omega), decide_eq_true h2]
    · rw [decide_eq_false (show ¬ j < k + 1 by omega), decide_eq_false h2]
theorem fK_no (l : List Int) {k n : Nat} (hk : k < n) (h : basB (l.getD k 0) = false) : fK l (k + 1) n = fK l k n := by
  apply list_bool_ext (by rw [fK_len, fK_len])
  intro j hj
  rw [fK_len] at hj
  rw [fK_getD l hj, fK_getD l hj]
  by_cases e : j = k
  · subst e; rw [h]; simp
  · congr 1
    by_cases h2 : j < k
    · rw [decide_eq_true (show j < k + 1 by omega), decide_eq_true h2]
    · rw [decide_eq_false (show ¬ j < k + 1 by omega), decide_eq_false h2]
theorem fK_all (l : List Int) : fK l l.length l.length = basF l := by
  apply list_bool_ext (by rw [fK_len]; unfold basF; simp)
  intro j hj
  rw [fK_len] at hj
  rw [fK_getD l hj, basF_at l j hj, decide_eq_true hj]; rfl

/-- The state between two numbers. -/
structure REnc (l : List Int) (F : List Bool) (n : Int) (i f : Nat) : Prop where
  len : F.length = l.length
  ahead : Ahead l F n i
  n0 : 0 ≤ n
  n1 : n ≤ 1114111
  i0 : i ≤ (placed l F).length
  fuel : (placed l F).length + f = l.length
theorem REnc.start (l : List Int) : REnc l (basF l) 128 0 (l.length - (basS l).length) where
  len := by unfold basF; simp
  ahead := bas_ahead l
  n0 := by omega
  n1 := by omega
  i0 := Nat.zero_le _
  fuel := by have := placed_len l (basF l); unfold basS; omega
theorem REnc.none {l : List Int} {F : List Bool} {n : Int} {i f : Nat} (h : REnc l F n i f) (hk : leastK l F l.length = none) : f = 0 := by
  have := placed_all l F h.len (leastK_none l F _ hk)
  have h2 := h.fuel
  rw [this] at h2
  omega
theorem REnc.step {l : List Int} {F : List Bool} {n : Int} {i f a : Nat} (h : REnc l F n i f) (hs : ∀ c ∈ l, scpB c = true) (hlen : l.length ≤ 256) (hk : leastK l F l.length = some a) :
    ∃ f', f = f' + 1 ∧ a < l.length ∧ REnc l (F.set a true) (l.getD a 0) (pcs l F a + 1) f' ∧ stepV l F n i a ≤ 286326783 ∧
      (l.getD a 0 - n) * (((placed l F).length : Int) + 1) + (pcs l F a : Int) - (i : Int) = (stepV l F n i a : Int) := by
  have hL := leastK_some l F _ a hk
  obtain ⟨hna, hA', hij⟩ := ahead_step h.len hL h.ahead
  have hj := pcs_le l F h.len hL.lt
  obtain ⟨_, hplen⟩ := putD_placed h.len hL.lt hL.out
  obtain ⟨_, hv⟩ := step_back (P := placed l F) (v := stepV l F n i a) hna hj hij h.i0 rfl
  have hvb := stepV_bd hs hlen h.len h.n0 (Nat.le_trans (placed_len l F) hlen) hL.lt (i := i)
  have hsc := scp_bd (hs (l.getD a 0) (by simp [hL.lt]))
  have hf := h.fuel
  have hpl2 := placed_len l (F.set a true)
  refine ⟨f - 1, by omega, hL.lt, ⟨by simpa using h.len, hA', hsc.1, hsc.2, by rw [hplen]; omega, by rw [hplen]; omega⟩, hvb, ?_⟩
  rw [hv]; rfl
theorem pcs_snoc (l : List Int) (F : List Bool) {k : Nat} (hF : F.length = l.length) (hk : k < l.length) : pcs l F (k + 1) = pcs l F k + (if F.getD k true = true then 1 else 0) := by
  unfold pcs
  have h1 := placed_split (l.take (k + 1)) (F.take (k + 1)) k (by simp [hF]) (by simp; omega)
  have e1 : (l.take (k + 1)).take k = l.take k := by rw [List.take_take, Nat.min_eq_left (by omega)]
  have e2 : (F.take (k + 1)).take k = F.take k := by rw [List.take_take, Nat.min_eq_left (by omega)]
  have e3 : (l.take (k + 1)).drop (k + 1) = [] := by simp
  have e4 : (F.take (k + 1)).getD k true = F.getD k true := by simp [List.getD]
  rw [h1, e1, e2, e3, e4]
  simp only [List.length_append]
  have e5 : (placed [] ((F.take (k + 1)).drop (k + 1))).length = 0 := by cases (F.take (k + 1)).drop (k + 1) <;> rfl
  rw [e5]
  split <;> simp
theorem pcs_full (l : List Int) (F : List Bool) (hF : F.length = l.length) : pcs l F l.length = (placed l F).length := by
  unfold pcs; rw [List.take_of_length_le (Nat.le_refl _), List.take_of_length_le (by omega)]

theorem size_pos_ne (S : ByteArray) (h : S.size ≠ 0) : (S.toList == []) = false := by
  rw [ByteArray.toList_eq]
  cases hh : S.data.toList with
  | nil => exact absurd (by rw [← Array.length_toList, hh]; rfl : S.data.size = 0) h
  | cons c r => rfl
theorem size_zero_eq (S : ByteArray) (h : S.size = 0) : (S.toList == []) = true := by
  rw [ByteArray.toList_eq]
  have : S.data.toList = [] := List.eq_nil_of_length_eq_zero (by rw [Array.length_toList]; exact h)
  rw [this]; rfl

set_option maxRecDepth 100000 in
set_option maxHeartbeats 8000000 in
theorem rencode_at (p : Option Addr) (n cap : Nat) (l X : List Int) (er : Int) (S0 : ByteArray) (w : World) (hin : IntsIn w p l) (hn : Hid (l.length = n)) (hn2 : n ≤ 17592186043904) (hE : Hid (encP l = (X, er))) (hS : Hid (strOfNums X = S0)) :
    Calls Try.prog 25 #[.slice p n cap] w (StrErr S0 er w) := by
  have HI := Lib.hid hin
  clear hin
  by_cases hbig : 256 < n
  · have hE' := hE.out
    rw [encP_long (by rw [hn.out]; exact hbig)] at hE'
    injection hE' with e1 e2
    subst e1; subst e2
    have HS : Hid (S0 = ByteArray.mk #[]) := hS.out.symm
    clear hE hS
    go_enter Try.func25, Try.ntmps25
    go_wp2
    go_ret2
    exact ⟨by rw [HS.out]; rfl, Below.refl _ _⟩
  have hnb : n ≤ 256 := by omega
  have hmk := run_make_bools n (by omega)
  have HR0 := Lib.hid (BRow.made w n)
  have HB0 := Lib.hid ((Below.refl w.heap.size w).alloc (Nat.le_refl _) (madeBools n))
  clear hbig
  go_enter Try.func25, Try.ntmps25
  go_upto_region 5 with (fail)
  obtain ⟨gp, hgp⟩ : ∃ gp, w.heap.size = gp := ⟨_, rfl⟩
  have HGP := Lib.hid hgp
  rw [hgp] at HR0 ⊢
  clear hmk hgp
  generalize w.alloc (madeBools n) = W1 at HR0 HB0 ⊢
  go_wp2
  go_loopw [4, 26] (fun vs u wr => ∃ (k : Nat) (S : ByteArray) (F : List Bool), u = .int .i64 k ∧ vs = .string S ∧ k ≤ n ∧ S.size ≤ k ∧ Hid (S = strOfNums (basS (l.take k))) ∧ Hid ((l.take k).all scpB = true) ∧ Hid (F = fK l k n) ∧ Hid (BRow wr gp F) ∧ Hid (Below w.heap.size w wr)) (fun _ u _ => n - (intOf u).toNat)
  case atStart => exact ⟨0, ByteArray.mk #[], _, rfl, rfl, Nat.zero_le _, Nat.le_refl _, rfl, rfl, (fK_zero l n).symm, HR0, HB0⟩
  case round =>
    clear HR0 HB0
    obtain ⟨k, S, F, rfl, rfl, hk, hSz, hSe, hall, hF, hbr, hbe⟩ := hrel
    have hFl : F.length = n := by rw [hF.out]; exact fK_len l k n
    have HFL := Lib.hid hFl
    clear hFl
    by_cases hlt : k < n
    · have hkl : k < l.length := by rw [hn.out]; exact hlt
      obtain ⟨b, off, rfl, hck⟩ := (HI.out.below hbe.out) k hkl
      obtain ⟨x, hx⟩ : ∃ x, l.getD k 0 = x := ⟨_, rfl⟩
      rw [hx] at hck
      cases hsc : scpB x with
      | false =>
        have hE' := hE.out
        rw [encP_bad (by rw [hn.out]; exact hnb) (all_take_bad hkl (by rw [hx]; exact hsc))] at hE'
        injection hE' with e1 e2
        subst e1; subst e2
        have HS : Hid (S0 = ByteArray.mk #[]) := hS.out.symm
        have HSC := Lib.hid hsc
        clear hx hkl hsc hall hE hS
        go_wp2_with (go_at_call 38; refine (pscalar_at x false _ HSC).mono ?_; rintro ex w2 ⟨rfl, rfl⟩)
        go_ret2
        exact ⟨by rw [HS.out]; rfl, hbe.out⟩
      | true =>
        have HSC := Lib.hid hsc
        have HA : Hid ((l.take (k + 1)).all scpB = true) := all_take_snoc hkl hall.out (by rw [hx]; exact hsc)
        have hxb := scp_bd hsc
        obtain ⟨hx0, hx1⟩ := hxb
        have HSN := Lib.hid (basS_snoc l k hkl)
        rw [hx] at HSN
        cases hbb : basB x with
        | false =>
          have hx128 : ¬ x < 128 := of_decide_eq_false hbb
          have dx : decide (x < 128) = false := decide_eq_false hx128
          have HS2 : Hid (S = strOfNums (basS (l.take (k + 1)))) := by unfold Hid; rw [HSN.out, hbb]; simpa using hSe.out
          have HF2 : Hid (F = fK l (k + 1) n) := by unfold Hid; rw [fK_no l hlt (by rw [hx]; exact hbb)]; exact hF.out
          clear hx hkl hsc hall hSe hF HSN hbb
          go_wp2_with (go_at_call 38; refine (pscalar_at x true _ HSC).mono ?_; rintro ex w2 ⟨rfl, rfl⟩)
          go_roundw
          case rel => exact ⟨k + 1, S, F, by go_num, rfl, by omega, by omega, HS2, HA, HF2, hbr, hbe⟩
          case measure => simp [intOf]; omega
        | true =>
          have hx128 : x < 128 := of_decide_eq_true hbb
          obtain ⟨Y, hY⟩ : ∃ Y, strOfNums [x] = Y := ⟨_, rfl⟩
          have hYs : Y.size = 1 := by rw [← hY, strOfNums_size]; rfl
          have hcv := conv_lit wr #[.int .u8 x] [x] 1 rfl rfl
          rw [hY] at hcv
          have HS2 : Hid (S ++ Y = strOfNums (basS (l.take (k + 1)))) := by
            unfold Hid; rw [HSN.out, hbb, if_pos rfl, pstrOf_append, hY, hSe.out]
          have HF2 : Hid (F.set k true = fK l (k + 1) n) := by unfold Hid; rw [fK_yes l hlt (by rw [hx]; exact hbb), hF.out]
          have hw8 : IntKind.u8.wrap x = x := by rw [IntKind.wrap_u8]; omega
          have hSY : (S ++ Y).size = S.size + 1 := by rw [ByteArray.size_append, hYs]
          have HSY := Lib.hid hSY
          have HBR2 := Lib.hid (hbr.out.grown (World.grownBy_alloc wr (.cells #[.int .u8 x] 5) none) (by simp))
          have HBR3 := Lib.hid (HBR2.out.set (i := k) (by rw [HFL.out]; exact hlt) true)
          have hcb := HBR2.out.cell (k := k) (by rw [HFL.out]; exact hlt)
          have hfb := HBR2.out.soft k
          have HBE2 : Hid (Below w.heap.size w ((wr.alloc (.cells #[.int .u8 x] 5)).setCell ⟨gp, k, none⟩ (.bool true))) :=
            (hbe.out.alloc hbe.out.size _).grown (grownBy_store _ gp k _) (by have := hbe.out.size; simp; omega) (by rintro j ⟨⟩; rw [HGP.out]; exact Nat.le_refl _)
          clear hx hkl hsc hall hSe hF HSN hbb hY hSY HBR2 hbr hbe
          go_wp2_with (go_at_call 38; refine (pscalar_at x true _ HSC).mono ?_; rintro ex w2 ⟨rfl, rfl⟩)
          go_roundw
          case rel => exact ⟨k + 1, S ++ Y, F.set k true, by go_num, rfl, by omega, by rw [HSY.out]; omega, HS2, HA, HF2, HBR3, HBE2⟩
          case measure => simp [intOf]; omega
    · obtain rfl : k = n := by omega
      have HA : Hid (l.all scpB = true) := by have := hall.out; rwa [List.take_of_length_le (by rw [hn.out]; exact Nat.le_refl _)] at this
      have HAS : Hid (∀ c ∈ l, scpB c = true) := List.all_eq_true.1 HA.out
      have HF2 : Hid (F = basF l) := by
        have := hF.out
        rw [← hn.out] at this
        rw [fK_all] at this
        exact this
      have HSE : Hid (S = strOfNums (basS l)) := by have := hSe.out; rwa [List.take_of_length_le (by rw [hn.out]; exact Nat.le_refl _)] at this
      have HX : Hid (X = frontS (basS l) ++ pencL l (l.length - (basS l).length) (basF l) 128 0 72 true ∧ er = 0) := by
        have := hE.out
        unfold encP at this
        rw [if_neg (by rw [hn.out]; omega), if_neg (by rw [HA.out]; simp)] at this
        injection this with a1 a2
        exact ⟨a1.symm, a2.symm⟩
      have HSZ : Hid (S.size = (basS l).length) := by unfold Hid; rw [HSE.out, strOfNums_size]
      clear hall hF hSe hE
      go_upto_if 47 with (fail)
      go_cut [4] (fun c wx => ∃ S1 : ByteArray, c = .string S1 ∧ S1.size ≤ k + 1 ∧ Hid (S1 = strOfNums (frontS (basS l))) ∧ wx = wr)
      case first =>
        by_cases h0 : S.size = 0
        · have d1 := size_zero_eq S h0
          have d2 : S.toList.isEmpty = true := by cases hh : S.toList with | nil => rfl | cons c r => (rw [hh] at d1; cases d1)
          rw [d2]
          clear d1 d2
          have HS1 : Hid (S = strOfNums (frontS (basS l))) := by
            unfold Hid frontS
            rw [if_pos (List.eq_nil_of_length_eq_zero (by rw [← HSZ.out]; exact h0)), List.append_nil]
            exact HSE.out
          go_wp2
          go_meet
          exact ⟨S, rfl, by omega, HS1, rfl⟩
        · have d1 := size_pos_ne S h0
          have d2 : S.toList.isEmpty = false := by cases hh : S.toList with | nil => (rw [hh] at d1; cases d1) | cons c r => rfl
          rw [d2]
          clear d1 d2
          have HS1 : Hid (S ++ ByteArray.mk #[45] = strOfNums (frontS (basS l))) := by
            unfold Hid frontS
            rw [if_neg (fun e => h0 (by rw [HSZ.out, e]; rfl)), pstrOf_append, ← HSE.out]
            rfl
          have HS2 : Hid ((S ++ ByteArray.mk #[45]).size = S.size + 1) := by unfold Hid; rw [ByteArray.size_append]; rfl
          have h45 : (ByteArray.mk #[45]).size = 1 := rfl
          go_wp2
          go_meet
          exact ⟨_, rfl, by rw [HS2.out]; omega, HS1, rfl⟩
      case rest =>
        obtain ⟨S1, rfl, hS1, hS1e, rfl⟩ := hcut
        obtain ⟨hX, rfl⟩ := HX.out
        have HX2 : Hid (S1 ++ strOfNums (pencL l (l.length - (basS l).length) F 128 0 72 true) = S0) := by
          unfold Hid; rw [← hS.out, hX, pstrOf_append, hS1e.out, HF2.out]
        have HRE : Hid (REnc l F 128 0 (l.length - (basS l).length)) := by unfold Hid; rw [HF2.out]; exact REnc.start l
        obtain ⟨f0, hf0⟩ : ∃ f0, l.length - (basS l).length = f0 := ⟨_, rfl⟩
        rw [hf0] at HX2 HRE
        have hf0k : f0 ≤ k := by have := hn.out; omega
        clear hX HX hS hS1e HSE HSZ HF2 hf0
        go_wp2
        go_loopg [4, 8, 9, 10, 11] f0 (fun g vs vn vi vb vf wx => ∃ (F : List Bool) (n : Int) (i b : Nat) (first : Bool) (S : ByteArray), vs = .string S ∧ vn = .int .i64 n ∧ vi = .int .i64 i ∧ vb = .int .i64 b ∧ vf = .bool first ∧ i ≤ 257 ∧ b ≤ 70368744177664 ∧ g ≤ 256 ∧ S.size ≤ 300 + 11 * (256 - g) ∧ Hid (REnc l F n i g) ∧ Hid (S ++ strOfNums (pencL l g F n i b first) = S0) ∧ Hid (BRow wx gp F) ∧ Hid (Below w.heap.size w wx))
        case atStart => exact ⟨F, 128, 0, 72, true, S1, rfl, rfl, rfl, rfl, rfl, by omega, by omega, by omega, by omega, HRE, HX2, hbr, hbe⟩
        case round =>
          clear HRE HX2 hbr hbe HFL
          obtain ⟨F, n, i, b, first, S, rfl, rfl, rfl, rfl, rfl, hi, hb, hg, hSz2, hre, hx, hbr, hbe⟩ := hrel
          have HFL : Hid (F.length = k) := by unfold Hid; rw [hre.out.len, hn.out]
          cases hlk : leastK l F l.length with
          | none =>
            have hgz := hre.out.none hlk
            subst hgz
            have HLK : Hid (leastK l F k = none) := by rw [← hn.out]; exact hlk
            have HXE : Hid (S = S0) := by
              have := hx.out
              rw [pencL] at this
              rw [← this]
              show S = S ++ ByteArray.mk #[]
              rw [show (ByteArray.mk #[] : ByteArray) = ByteArray.empty from rfl, ByteArray.append_empty]
            clear hlk hx
            go_wp2_with (go_at_call 39; refine (rleast_at p k cap gp l F none _ (HI.out.below hbe.out) hn (by omega) HFL hbr.out HLK).mono ?_; rintro ex w5 ⟨rfl, rfl⟩; simp only [lkI])
            go_ret2
            exact ⟨by rw [← HXE.out]; rfl, hbe.out⟩
          | some a =>
            obtain ⟨f', hf', hal, hre2, hvb, hve⟩ := hre.out.step HAS.out (by rw [hn.out]; exact hnb) hlk
            subst hf'
            have HLK : Hid (leastK l F k = some a) := by rw [← hn.out]; exact hlk
            have hak : a < k := by have := hn.out; omega
            have HREL := Lib.hid hre.out.len
            obtain ⟨V, hV⟩ : ∃ V, stepV l F n i a = V := ⟨_, rfl⟩
            obtain ⟨H, hH⟩ : ∃ H, (placed l F).length = H := ⟨_, rfl⟩
            obtain ⟨J, hJ⟩ : ∃ J, pcs l F a = J := ⟨_, rfl⟩
            obtain ⟨x, hx0⟩ : ∃ x, l.getD a 0 = x := ⟨_, rfl⟩
            obtain ⟨A, hA⟩ : ∃ A, adaptN V (H + 1) first = A := ⟨_, rfl⟩
            obtain ⟨YS, hYS⟩ : ∃ YS, strOfNums ((pnumS b 0 V).map pdigB) = YS := ⟨_, rfl⟩
            have hAb : A ≤ 2199023255588 := by rw [← hA]; exact adaptN_bd V _ _ (by omega)
            have hYl : YS.size ≤ 11 := by
              rw [← hYS, strOfNums_size, List.length_map]
              have := pnumS_len b 10 0 V (by omega)
              omega
            have HX2 : Hid ((S ++ YS) ++ strOfNums (pencL l f' (F.set a true) x (J + 1) A false) = S0) := by
              unfold Hid
              rw [← hx.out, pencL, hlk]
              simp only
              rw [hV, hH, hJ, hx0, hA, pstrOf_append, hYS, ByteArray.append_assoc]
            have hHk : H ≤ k := by rw [← hH, ← hn.out]; exact placed_len l F
            have hJH : J ≤ H := by rw [← hH, ← hJ]; exact pcs_le l F hre.out.len hal
            rw [hV] at hvb hve
            rw [hH, hJ, hx0] at hve
            rw [hx0, hJ] at hre2
            obtain ⟨b1, o1, rfl, hca⟩ := (HI.out.below hbe.out) a hal
            rw [hx0] at hca
            have hn0 := hre.out.n0
            have hn1 := hre.out.n1
            have hxb := scp_bd (HAS.out x (by rw [← hx0]; simp [hal]))
            obtain ⟨hx0b, hx1b⟩ := hxb
            have HRE2 := Lib.hid hre2
            have HVE := Lib.hid hve
            have HJ := Lib.hid hJ
            have HH := Lib.hid hH
            have HA2 := Lib.hid hA
            have HYS := Lib.hid hYS
            clear hlk hx hre hre2 hve hV hH hJ hx0 hA hYS hal
            go_wp2_with (go_at_call 39; refine (rleast_at (some ⟨b1, o1, none⟩) k cap gp l F (some a) _ (HI.out.below hbe.out) hn (by omega) HFL hbr.out HLK).mono ?_; rintro ex w5 ⟨rfl, rfl⟩; simp only [lkI])
            go_loopw [13, 14, 58] (fun vh vj u wx => ∃ q : Nat, u = .int .i64 q ∧ vh = .int .i64 (pcs l F q) ∧ vj = .int .i64 (pcs l F (min q a)) ∧ q ≤ k ∧ wx = w5) (fun _ _ u _ => k - (intOf u).toNat)
            case atStart => exact ⟨0, rfl, by rw [show pcs l F 0 = 0 from rfl]; rfl, by rw [Nat.zero_min, show pcs l F 0 = 0 from rfl]; rfl, Nat.zero_le _, by first | rfl | trivial⟩
            case round =>
              obtain ⟨q, rfl, rfl, rfl, hq, rfl⟩ := hrel
              by_cases hql : q < k
              · have hqc := hbr.out.cell (k := q) (by rw [HFL.out]; exact hql)
                have hs1 := pcs_snoc l F HREL.out (show q < l.length by rw [hn.out]; exact hql)
                have hqb : pcs l F q ≤ k := by
                  have h1 := pcs_mono l F HREL.out (show q ≤ l.length by rw [hn.out]; exact hq) (Nat.le_refl _)
                  rw [pcs_full l F HREL.out, HH.out] at h1
                  omega
                have hqm : pcs l F (min q a) ≤ k := by
                  have h1 := pcs_mono l F HREL.out (show min q a ≤ l.length by rw [hn.out]; omega) (Nat.le_refl _)
                  rw [pcs_full l F HREL.out, HH.out] at h1
                  omega
                obtain ⟨c1, hc1⟩ : ∃ c1, pcs l F q = c1 := ⟨_, rfl⟩
                obtain ⟨c2, hc2⟩ : ∃ c2, pcs l F (min q a) = c2 := ⟨_, rfl⟩
                rw [hc1] at hs1 hqb ⊢
                rw [hc2] at hqm ⊢
                cases hfq : F.getD q true with
                | true =>
                  rw [hfq] at hqc hs1
                  have HS1 : Hid (pcs l F (q + 1) = c1 + 1) := by unfold Hid; rw [hs1]; simp
                  by_cases hqa : q < a
                  · have HS2 : Hid (pcs l F (min (q + 1) a) = c2 + 1) := by
                      unfold Hid
                      rw [Nat.min_eq_left (by omega), HS1.out]
                      rw [Nat.min_eq_left (by omega), hc1] at hc2
                      omega
                    clear hs1 hfq hc1 hc2
                    go_wp2
                    go_roundw
                    case rel => exact ⟨q + 1, by go_num, by rw [HS1.out]; go_num, by rw [HS2.out]; go_num, by omega, by first | rfl | trivial⟩
                    case measure => simp [intOf]; omega
                  · have HS2 : Hid (pcs l F (min (q + 1) a) = c2) := by
                      unfold Hid
                      rw [Nat.min_eq_right (by omega)]
                      rw [Nat.min_eq_right (by omega)] at hc2
                      exact hc2
                    have hdq : decide (q < a) = false := decide_eq_false hqa
                    clear hs1 hfq hc1 hc2
                    go_wp2
                    go_roundw
                    case rel => exact ⟨q + 1, by go_num, by rw [HS1.out]; go_num, by rw [HS2.out], by omega, by first | rfl | trivial⟩
                    case measure => simp [intOf]; omega
                | false =>
                  rw [hfq] at hqc hs1
                  have HS1 : Hid (pcs l F (q + 1) = c1) := by unfold Hid; rw [hs1]; simp
                  have HS2 : Hid (pcs l F (min (q + 1) a) = c2) := by
                    unfold Hid
                    by_cases hqa : q < a
                    · rw [Nat.min_eq_left (by omega), HS1.out]
                      rw [Nat.min_eq_left (by omega), hc1] at hc2
                      exact hc2
                    · rw [Nat.min_eq_right (by omega)]
                      rw [Nat.min_eq_right (by omega)] at hc2
                      exact hc2
                  clear hs1 hfq hc1 hc2
                  go_wp2
                  go_roundw
                  case rel => exact ⟨q + 1, by go_num, by rw [HS1.out], by rw [HS2.out], by omega, by first | rfl | trivial⟩
                  case measure => simp [intOf]; omega
              · obtain rfl : k = q := by omega
                have e1 : pcs l F k = H := by rw [← HH.out, ← pcs_full l F HREL.out, hn.out]
                have e2 : pcs l F (min k a) = J := by rw [Nat.min_eq_right (by omega)]; exact HJ.out
                rw [e1, e2]
                clear e1 e2
                have hv1 : (x - n) * ((H : Int) + 1) + (J : Int) - (i : Int) = (V : Int) := HVE.out
                have hm : -4564517778 ≤ (x - n) * ((H : Int) + 1) ∧ (x - n) * ((H : Int) + 1) ≤ 4564517778 := by
                  have e : (x - n).natAbs * (H + 1) ≤ 1114111 * 4097 := Nat.mul_le_mul (by omega) (by omega)
                  have e2 : ((x - n) * ((H : Int) + 1)).natAbs = (x - n).natAbs * (H + 1) := by
                    rw [Int.natAbs_mul]; congr 1
                  omega
                obtain ⟨M, hM⟩ : ∃ M, (x - n) * ((H : Int) + 1) = M := ⟨_, rfl⟩
                rw [hM] at hv1 hm
                obtain ⟨hm1, hm2⟩ := hm
                obtain ⟨H1, hH1⟩ : ∃ H1, H + 1 = H1 := ⟨_, rfl⟩
                have hH1I : (H : Int) + 1 = (H1 : Int) := by omega
                have hM2 : (x - n) * (H1 : Int) = M := by rw [← hM, hH1I]
                obtain ⟨J1, hJ1⟩ : ∃ J1, J + 1 = J1 := ⟨_, rfl⟩
                have hJ1I : (J : Int) + 1 = (J1 : Int) := by omega
                have HJ1 := Lib.hid hJ1
                rw [hH1] at HA2
                have hH1b : 1 ≤ H1 ∧ H1 ≤ 4096 := by omega
                obtain ⟨hH1c, hH1d⟩ := hH1b
                rw [hJ1] at HX2 HRE2
                have hSY : (S ++ YS).size = S.size + YS.size := ByteArray.size_append
                have HSY := Lib.hid hSY
                have hcb := hbr.out.cell (k := a) (by rw [HFL.out]; exact hak)
                have hfb := hbr.out.soft a
                have HBR2 := Lib.hid (hbr.out.set (i := a) (by rw [HFL.out]; exact hak) true)
                have HBE2 : Hid (Below w.heap.size w (World.setCell _ ⟨gp, a, none⟩ (.bool true))) := hbe.out.grown (grownBy_store _ gp a (.bool true)) hbe.out.size (by rintro j ⟨⟩; rw [HGP.out]; exact Nat.le_refl _)
                have hbg : b1 < gp := by
                  obtain ⟨b2, o2, e3, hc3⟩ := HI.out a (by rw [hn.out]; exact hak)
                  cases e3
                  have := World.block_lt_of_cell? w _ hc3
                  have := HGP.out
                  simp only at *
                  omega
                have hca2 := (World.cell?_setCell_other _ ⟨gp, a, none⟩ ⟨b1, o1 + a, none⟩ (.bool true) (by intro e; injection e with e1 e2; omega)).trans hca
                clear hH1 hJ1 hSY hM hbr hbe hbg
                go_wp2_with (first
                  | (go_at_call 40; refine (rnumber_at V b YS _ (by omega) hb HYS).mono ?_; rintro ex w6 ⟨rfl, rfl⟩)
                  | (go_at_call 41; refine (radapt_at_in V H1 A first _ (by omega) hH1c hH1d HA2).mono ?_; rintro ex w7 ⟨rfl, rfl⟩))
                go_roundg f'
                case measure => omega
                case rel => exact ⟨F.set a true, x, J1, A, false, S ++ YS, rfl, rfl, rfl, rfl, rfl, by omega, by omega, by omega, by rw [HSY.out]; omega, HRE2, HX2, HBR2, HBE2⟩

end Go.Proofs.Ytmnnpfohjffniaa
