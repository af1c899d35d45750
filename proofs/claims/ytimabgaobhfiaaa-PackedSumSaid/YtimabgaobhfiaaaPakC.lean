/-
  packed: PutList, PutSpans.
-/
import Derived.Test.YtimabgaobhfiaaaPakB
namespace Go.Proofs.Ytimabgaobhfiaaa
open Go.RowKit

theorem putLF_bad (l : List Int) (b : ByteArray) (last : Int) (h : l.all modB = false) : putLF b last l = (ByteArray.empty, 3) := by
  induction l generalizing b last with
  | nil => cases h
  | cons v r ih =>
    rw [putLF]
    by_cases hv : modB v = true
    · rw [if_pos hv]
      refine ih _ _ ?_
      simpa [hv] using h
    · rw [if_neg hv]

theorem putSF_bad (l : List Sp) (b : ByteArray) (last : Int) (h : (l.all fun s => modB s.2.2) = false) : putSF b last l = (ByteArray.empty, 3) := by
  induction l generalizing b last with
  | nil => cases h
  | cons v r ih =>
    rw [putSF]
    by_cases hv : modB v.2.2 = true
    · rw [if_pos hv]
      refine ih _ _ ?_
      simpa [hv] using h
    · rw [if_neg hv]

theorem all_prefix {α : Type} (f : α → Bool) (l : List α) (k : Nat) (h : (l.take k).all f = false) : l.all f = false := by
  rw [← List.take_append_drop k l, List.all_append, h]; rfl

theorem encL_size (l : List Int) (last : Int) : (encL last l).size ≤ 10 * l.length := by
  induction l generalizing last with
  | nil => simp [encL]
  | cons v r ih =>
    have := ih v
    have := (putB_size (v - last)).2
    simp only [encL, ByteArray.size_append, List.length_cons]
    omega

theorem encS_size (l : List Sp) (last : Int) : (encS last l).size ≤ 30 * l.length := by
  induction l generalizing last with
  | nil => simp [encS]
  | cons s r ih =>
    have := ih s.2.1
    have := (putB_size (s.1 - last)).2
    have := (putB_size (s.2.1 - s.1)).2
    have := (putB_size s.2.2).2
    simp only [encS, ByteArray.size_append, List.length_cons]
    omega

theorem isI_small {v : Int} (h0 : -4611686018427387904 ≤ v) (h1 : v ≤ 4611686018427387904) : IsI v := ⟨by omega, by omega⟩

theorem drop_cons_int (l : List Int) (k : Nat) (h : k < l.length) : l.drop k = l.getD k 0 :: l.drop (k + 1) := by
  rw [List.drop_eq_getElem_cons h]; simp [h]

theorem getD_mem_int (l : List Int) (k : Nat) (h : k < l.length) : l.getD k 0 ∈ l := by
  simp [h]

theorem putList_long {b : ByteArray} {l : List Int} (h : 4096 < l.length) : putListS b l = (ByteArray.empty, 7) := by rw [putListS, if_pos h]
theorem putList_bad {b : ByteArray} {l : List Int} (h : l.length ≤ 4096) (h2 : l.all modB = false) : putListS b l = (ByteArray.empty, 3) := by rw [putListS, if_neg (by omega), putLF_bad l _ _ h2]

theorem short_prefix {Y R U : List Int} {N : Nat} (h : Y ++ R = U) (hU : U.length ≤ N) : Y.length ≤ N := by
  rw [← h, List.length_append] at hU; omega

set_option maxRecDepth 100000 in
set_option maxHeartbeats 4000000 in
theorem putList_any (b : ByteArray) (p : Option Addr) (n c : Nat) (l : List Int) (X : ByteArray) (er : Int) (w : World) (hs : b.size ≤ 140737488351232) (hl : l.length = n) (hn : n ≤ maxLen) (hin : IntsIn w p l) (hX : Hid (putListS b l = (X, er))) :
    Calls Try.prog 14 #[.string b, .slice p n c] w fun e w' => e = .returned (.tuple #[.string X, .int .i64 er]) ∧ Below w.heap.size w w' := by
  unfold maxLen at hn
  have HI := Lib.hid hin
  have HL := Lib.hid hl
  clear hin hl
  by_cases hbig : 4096 < n
  · have hE := hX.out
    rw [putList_long (by rw [HL.out]; exact hbig)] at hE
    injection hE with e1 e2
    subst e1; subst e2
    go_enter Try.func14, Try.ntmps14
    go_wp2
    go_ret2
    exact ⟨rfl, Below.refl _ _⟩
  have hn2 : n ≤ 4096 := by omega
  clear hbig
  go_enter Try.func14, Try.ntmps14
  go_wp2
  go_loop [17] (fun i => ∃ k : Nat, k ≤ n ∧ i = .int .i64 k ∧ Hid ((l.take k).all modB = true)) (fun i => n - (intOf i).toNat)
  case atStart => exact ⟨0, Nat.zero_le _, rfl, rfl⟩
  case round =>
    obtain ⟨k, hk, rfl, hall⟩ := hrel
    by_cases hlt : k < n
    · have hkl : k < l.length := by rw [HL.out]; exact hlt
      obtain ⟨g, off, rfl, hc⟩ := HI.out k hkl
      obtain ⟨v, hv⟩ : ∃ v, l.getD k 0 = v := ⟨_, rfl⟩
      rw [hv] at hc
      have hT := take_snoc_int l k hkl
      rw [hv] at hT
      cases hm : modB v with
      | true =>
        have HM := Lib.hid hm
        have HA : Hid ((l.take (k + 1)).all modB = true) := by unfold Hid; rw [hT, List.all_append, hall.out]; simp [hm]
        clear hm hT hv hall
        go_wp2_with (go_at_call 31; refine (isTick_at _ _ _ HM).mono ?_; rintro e w1 ⟨rfl, rfl⟩)
        go_round
        case rel => exact ⟨k + 1, by omega, by go_num, HA⟩
        case measure => simp [intOf]; omega
      | false =>
        have HM := Lib.hid hm
        have hA : l.all modB = false := all_prefix modB l (k + 1) (by rw [hT, List.all_append]; simp [hm])
        have hE := hX.out
        rw [putList_bad (by rw [HL.out]; exact hn2) hA] at hE
        injection hE with e1 e2
        subst e1; subst e2
        clear hm hT hv hall hA
        go_wp2_with (go_at_call 31; refine (isTick_at _ _ _ HM).mono ?_; rintro e w1 ⟨rfl, rfl⟩)
        go_ret2
        exact ⟨rfl, Below.refl _ _⟩
    · obtain rfl : k = n := by omega
      have hA : l.all modB = true := by
        have := hall.out
        rwa [List.take_of_length_le (Nat.le_of_eq HL.out)] at this
      have HA : Hid (∀ v ∈ l, modB v = true) := by simpa [Hid] using hA
      have hE := hX.out
      rw [(list_back b ByteArray.empty l (by rw [HL.out]; exact hn2) HA.out).1] at hE
      injection hE with e1 e2
      subst e2
      have HU : Hid ((nums b ++ cod (zz (k : Int))) ++ nums (encL 0 (l.drop 0)) = nums X) := by
        unfold Hid
        rw [← e1, nums_append, nums_append, ← putB_nums (k : Int) (by omega) (by omega), List.drop_zero, HL.out]
      have HN : Hid ((nums X).length ≤ 140737488400000) := by
        unfold Hid
        have h1 := encL_size l 0
        have h2 := (putB_size (l.length : Int)).2
        rw [nums_length, ← e1, ByteArray.size_append, ByteArray.size_append]
        rw [HL.out] at h1 h2 ⊢
        omega
      have HK : Hid (IsI (k : Int)) := isI_small (by omega) (by omega)
      have HS : Hid ((nums b).length ≤ 140737490452000) := by unfold Hid; rw [nums_length]; omega
      clear e1 hA hall hlt hk
      obtain ⟨v0, W0, hcv, ho, hb⟩ := conv_bytes_own w b (by unfold maxLen; omega)
      have HO := Lib.hid ho
      have HB := Lib.hid hb
      clear ho hb
      go_wp2_with fail
      clear hcv
      refine (appendInt_any w.heap.size _ (nums b) (k : Int) _ HB.out.size HO.out HS.out HK.out).mono ?_
      rintro e w1 ⟨v1, rfl, ho1, hb1, _⟩
      have HO1 := Lib.hid ho1
      have HB1 := Lib.hid (HB.out.grown hb1 HB.out.size HO.out.base)
      clear hb1 ho1 HB HO
      go_wp2
      go_loopw [8, 9, 32] (fun vv lv i wr => ∃ (j : Nat) (last : Int) (Y : List Int), j ≤ k ∧ i = .int .i64 j ∧ lv = .int .i64 last ∧ -1073741824 ≤ last ∧ last ≤ 1073741824 ∧ Hid (Y ++ nums (encL last (l.drop j)) = nums X) ∧ Hid (OwnB wr w.heap.size vv Y) ∧ Hid (Below w.heap.size w wr)) (fun _ _ i _ => k - (intOf i).toNat)
      case atStart => exact ⟨0, 0, _, Nat.zero_le _, rfl, rfl, by omega, by omega, HU, HO1, HB1⟩
      case round =>
        clear HU HO1 HB1
        obtain ⟨j, last, Y, hj, rfl, rfl, hl0, hl1, hEq, ho, hbel⟩ := hrel
        by_cases hlt : j < k
        · have hjl : j < l.length := by rw [HL.out]; exact hlt
          obtain ⟨g, off, rfl, hc⟩ := (HI.out.below hbel.out) j hjl
          have hdr := drop_cons_int l j hjl
          have hmem := HA.out _ (getD_mem_int l j hjl)
          obtain ⟨v, hv⟩ : ∃ v, l.getD j 0 = v := ⟨_, rfl⟩
          rw [hv] at hc hdr hmem
          obtain ⟨hv0, hv1⟩ := modB_iff.1 hmem
          have HV : Hid (IsI (v - last)) := isI_small (by omega) (by omega)
          have HE2 : Hid ((Y ++ cod (zz (v - last))) ++ nums (encL v (l.drop (j + 1))) = nums X) := by
            unfold Hid
            rw [← hEq.out, hdr, encL, nums_append, putB_nums _ HV.out.1 HV.out.2, List.append_assoc]
          have HY : Hid (Y.length ≤ 140737490452000) := by have := short_prefix hEq.out HN.out; unfold Hid; omega
          clear hdr hmem hv hEq
          go_wp2_with (go_at_call 32; refine (appendInt_any w.heap.size _ Y (v - last) _ hbel.out.size ho.out HY.out HV.out).mono ?_; rintro e w2 ⟨v2, rfl, ho2, hb2, _⟩)
          have HB2 := Lib.hid (hbel.out.grown hb2 hbel.out.size ho.out.base)
          have HO2 := Lib.hid ho2
          clear hb2 ho2
          go_wp2
          go_roundw
          case rel => exact ⟨j + 1, v, _, by omega, by go_num, rfl, hv0, hv1, HE2, HO2, HB2⟩
          case measure => simp [intOf]; omega
        · obtain rfl : j = k := by omega
          have hYX : Y = nums X := by
            rw [← hEq.out, List.drop_of_length_le (Nat.le_of_eq HL.out)]; simp [encL, nums]
          have ho3 := ho.out
          rw [hYX] at ho3
          have hcv3 := conv_ownB ho3
          rw [strOf_nums] at hcv3
          clear hYX ho3 hEq
          go_wp2
          go_ret2
          exact ⟨rfl, hbel.out⟩

end Go.Proofs.Ytimabgaobhfiaaa
