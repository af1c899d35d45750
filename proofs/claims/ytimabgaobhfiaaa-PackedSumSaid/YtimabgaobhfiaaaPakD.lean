/-
  packed: PutSpans.
-/
import Derived.Test.YtimabgaobhfiaaaPakC
import Derived.Test.YtimabgaobhfiaaaRanRefChk
import Derived.Test.YtimabgaobhfiaaaRanAppAt
namespace Go.Proofs.Ytimabgaobhfiaaa
open Go.RowKit

theorem putSpans_inv {b : ByteArray} {l : List Sp} (h : validS l = false) : putSpansS b l = (ByteArray.empty, 1) := by rw [putSpansS, if_neg (by simp [h])]
theorem putSpans_bad {b : ByteArray} {l : List Sp} (h : validS l = true) (h2 : (l.all fun s => modB s.2.2) = false) : putSpansS b l = (ByteArray.empty, 3) := by rw [putSpansS, if_pos h, putSF_bad l _ _ h2]

theorem off_of_lt {w : World} {B : Nat} {v : Value} {xs : List Int} (h : OwnB w B v xs) : v.ownBlock ≠ some w.heap.size := fun e => Nat.lt_irrefl _ (h.lt _ e).2

set_option maxRecDepth 100000 in
set_option maxHeartbeats 4000000 in
theorem putSpans_any (b : ByteArray) (p : Option Addr) (n c : Nat) (l : List Sp) (X : ByteArray) (er : Int) (w : World) (hs : b.size ≤ 140737488351232) (hl : l.length = n) (hn : n ≤ maxLen) (hin : SpIn w p l) (hX : Hid (putSpansS b l = (X, er))) :
    Calls Try.prog 16 #[.string b, .slice p n c] w fun e w' => e = .returned (.tuple #[.string X, .int .i64 er]) ∧ Below w.heap.size w w' := by
  have HI := Lib.hid hin
  have HL := Lib.hid hl
  clear hin hl
  cases hv : validS l with
  | false =>
    have hE := hX.out
    rw [putSpans_inv hv] at hE
    injection hE with e1 e2
    subst e1; subst e2
    have HC : Hid (checkS l 0 1114111 = false) := by unfold Hid; rw [check_all, hv]
    clear hv
    go_enter Try.func16, Try.ntmps16
    go_wp2_with fail
    refine (check_at p n c l 0 1114111 false _ HL hn HI.out HC).mono ?_
    rintro e w1 ⟨rfl, hb1⟩
    have HB1 := Lib.hid hb1
    clear hb1
    go_wp2
    go_ret2
    exact ⟨rfl, HB1.out⟩
  | true =>
  have HC : Hid (checkS l 0 1114111 = true) := by unfold Hid; rw [check_all, hv]
  have hn2 : n ≤ 256 := by rw [← HL.out]; exact valid_len hv
  have HV := Lib.hid hv
  clear hv
  go_enter Try.func16, Try.ntmps16
  go_wp2_with fail
  refine (check_at p n c l 0 1114111 true _ HL hn HI.out HC).mono ?_
  rintro e w1 ⟨rfl, hb1⟩
  have HB1 := Lib.hid hb1
  clear hb1
  go_wp2
  go_loopw [17] (fun i wr => ∃ k : Nat, k ≤ n ∧ i = .int .i64 k ∧ Hid ((l.take k).all (fun s => modB s.2.2) = true) ∧ Hid (Below w.heap.size w wr)) (fun i _ => n - (intOf i).toNat)
  case atStart => exact ⟨0, Nat.zero_le _, rfl, rfl, HB1⟩
  case round =>
    clear HB1
    obtain ⟨k, hk, rfl, hall, hbel⟩ := hrel
    by_cases hlt : k < n
    · have hkl : k < l.length := by rw [HL.out]; exact hlt
      obtain ⟨g, off, rfl, hc1, hc2, hc3⟩ := (HI.out.below hbel.out) k hkl
      obtain ⟨⟨f, t, v⟩, hv⟩ : ∃ s, l.getD k sp0 = s := ⟨_, rfl⟩
      rw [hv] at hc1 hc2 hc3
      have hT := take_snoc_sp l k hkl
      rw [hv] at hT
      cases hm : modB v with
      | true =>
        have HM := Lib.hid hm
        have HA : Hid ((l.take (k + 1)).all (fun s => modB s.2.2) = true) := by unfold Hid; rw [hT, List.all_append, hall.out]; simp [hm]
        clear hm hT hv hall
        go_wp2_with (go_at_call 31; refine (isTick_at _ _ _ HM).mono ?_; rintro e w1 ⟨rfl, rfl⟩)
        go_roundw
        case rel => exact ⟨k + 1, by omega, by go_num, HA, hbel.out.alloc hbel.out.size _⟩
        case measure => simp [intOf]; omega
      | false =>
        have HM := Lib.hid hm
        have hA : l.all (fun s => modB s.2.2) = false := all_prefix _ l (k + 1) (by rw [hT, List.all_append]; simp [hm])
        have hE := hX.out
        rw [putSpans_bad HV.out hA] at hE
        injection hE with e1 e2
        subst e1; subst e2
        clear hm hT hv hall hA
        go_wp2_with (go_at_call 31; refine (isTick_at _ _ _ HM).mono ?_; rintro e w1 ⟨rfl, rfl⟩)
        go_ret2
        exact ⟨rfl, hbel.out.alloc hbel.out.size _⟩
    · obtain rfl : k = n := by omega
      have hA : l.all (fun s => modB s.2.2) = true := by
        have := hall.out
        rwa [List.take_of_length_le (Nat.le_of_eq HL.out)] at this
      have HA : Hid (∀ s ∈ l, modB s.2.2 = true) := by simpa [Hid] using hA
      have hE := hX.out
      rw [(spans_back b ByteArray.empty l HV.out HA.out).1] at hE
      injection hE with e1 e2
      subst e2
      have HU : Hid ((nums b ++ cod (zz (k : Int))) ++ nums (encS 0 (l.drop 0)) = nums X) := by
        unfold Hid
        rw [← e1, nums_append, nums_append, ← putB_nums (k : Int) (by omega) (by omega), List.drop_zero, HL.out]
      have HN : Hid ((nums X).length ≤ 140737488400000) := by
        unfold Hid
        have h1 := encS_size l 0
        have h2 := (putB_size (l.length : Int)).2
        rw [nums_length, ← e1, ByteArray.size_append, ByteArray.size_append]
        rw [HL.out] at h1 h2 ⊢
        omega
      have HK : Hid (IsI (k : Int)) := isI_small (by omega) (by omega)
      have HS : Hid ((nums b).length ≤ 140737490452000) := by unfold Hid; rw [nums_length]; omega
      have HAsc := Lib.hid (valid_asc HV.out)
      clear e1 hA hall hlt hk
      obtain ⟨v0, W0, hcv, ho, hb⟩ := conv_bytes_own wr b (by unfold maxLen; omega)
      have HO := Lib.hid (ho.mono hbel.out.size)
      have HB := Lib.hid (hbel.out.trans (hb.mono hbel.out.size))
      clear ho hb
      go_wp2_with fail
      clear hcv
      refine (appendInt_any w.heap.size _ (nums b) (k : Int) _ HB.out.size HO.out HS.out HK.out).mono ?_
      rintro e w1 ⟨v1, rfl, ho1, hb1, _⟩
      have HO1 := Lib.hid ho1
      have HB1 := Lib.hid (HB.out.grown hb1 HB.out.size HO.out.base)
      clear hb1 ho1 HB HO
      go_wp2
      go_loopw [8, 9, 33] (fun vv lv i wr => ∃ (j : Nat) (last : Int) (Y : List Int), j ≤ k ∧ i = .int .i64 j ∧ lv = .int .i64 last ∧ 0 ≤ last ∧ last ≤ 1114111 ∧ Hid (Y ++ nums (encS last (l.drop j)) = nums X) ∧ Hid (OwnB wr w.heap.size vv Y) ∧ Hid (Below w.heap.size w wr)) (fun _ _ i _ => k - (intOf i).toNat)
      case atStart => exact ⟨0, 0, _, Nat.zero_le _, rfl, rfl, by omega, by omega, HU, HO1, HB1⟩
      case round =>
        clear HU HO1 HB1 hbel
        obtain ⟨j, last, Y, hj, rfl, rfl, hl0, hl1, hEq, ho, hbel⟩ := hrel
        obtain ⟨wo, rfl⟩ : ∃ wo : World, wo = wr := ⟨_, rfl⟩
        by_cases hlt : j < k
        · have hjl : j < l.length := by rw [HL.out]; exact hlt
          obtain ⟨g, off, rfl, hc1, hc2, hc3⟩ := (HI.out.below hbel.out) j hjl
          have hdr := drop_cons_sp l j hjl
          have hmem := HA.out _ (getD_mem l j hjl)
          obtain ⟨a1, a2, a3⟩ := asc_getD HAsc.out j hjl
          obtain ⟨⟨f, t, v⟩, hv⟩ : ∃ s, l.getD j sp0 = s := ⟨_, rfl⟩
          rw [hv] at hc1 hc2 hc3 hdr hmem a1 a2 a3
          simp only at hc1 hc2 hc3 hmem a1 a2 a3
          obtain ⟨hv0, hv1⟩ := modB_iff.1 hmem
          have HV1 : Hid (IsI (f - last)) := isI_small (by omega) (by omega)
          have HV2 : Hid (IsI (t - f)) := isI_small (by omega) (by omega)
          have HV3 : Hid (IsI v) := isI_small (by omega) (by omega)
          have HE2 : Hid ((((Y ++ cod (zz (f - last))) ++ cod (zz (t - f))) ++ cod (zz v)) ++ nums (encS t (l.drop (j + 1))) = nums X) := by
            unfold Hid
            rw [← hEq.out, hdr, encS, nums_append, nums_append, nums_append, putB_nums _ HV1.out.1 HV1.out.2, putB_nums _ HV2.out.1 HV2.out.2, putB_nums _ HV3.out.1 HV3.out.2]
            simp only [List.append_assoc]
          have HY : Hid (Y.length ≤ 140737490450000) := by have := short_prefix hEq.out HN.out; unfold Hid; omega
          have HY1 : Hid ((Y ++ cod (zz (f - last))).length ≤ 140737490452000) := by have := cod_len (zz (f - last)); have := HY.out; unfold Hid; rw [List.length_append]; omega
          have HY2 : Hid (((Y ++ cod (zz (f - last))) ++ cod (zz (t - f))).length ≤ 140737490452000) := by have := cod_len (zz (f - last)); have := cod_len (zz (t - f)); have := HY.out; unfold Hid; rw [List.length_append, List.length_append]; omega
          have hne := off_of_lt ho.out
          have HN0 := Lib.hid hne
          have HO := Lib.hid (ho.out.alloc (.cells #[.int .i64 f, .int .i64 t, .int .i64 v] 49))
          have HC0 := Lib.hid (Cur.new wo f t v 49)
          have HB0 := Lib.hid (hbel.out.alloc hbel.out.size (.cells #[.int .i64 f, .int .i64 t, .int .i64 v] 49))
          clear hdr hmem hv hEq hne
          go_wp2_with fail
          refine (appendInt_any w.heap.size _ Y (f - last) _ HB0.out.size HO.out (by have := HY.out; omega) HV1.out).mono ?_
          rintro e w2 ⟨v2, rfl, ho2, hb2, hf2⟩
          have HO2 := Lib.hid ho2
          have HB2 := Lib.hid (HB0.out.grown hb2 HB0.out.size HO.out.base)
          have HC2 := Lib.hid (HC0.out.grown hb2 HN0.out)
          have HN2 := Lib.hid (hf2 _ HC0.out.2.2.2.2 HN0.out)
          clear ho2 hb2 hf2 HO HB0 HC0 HN0
          obtain ⟨k0, k1, k2, _, _⟩ := HC2.out
          go_wp2_with fail
          refine (appendInt_any w.heap.size _ _ (t - f) _ HB2.out.size HO2.out HY1.out HV2.out).mono ?_
          rintro e w3 ⟨v3, rfl, ho3, hb3, hf3⟩
          have HO3 := Lib.hid ho3
          have HB3 := Lib.hid (HB2.out.grown hb3 HB2.out.size HO2.out.base)
          have HC3 := Lib.hid (HC2.out.grown hb3 HN2.out)
          have HN3 := Lib.hid (hf3 _ HC2.out.2.2.2.2 HN2.out)
          clear ho3 hb3 hf3 HO2 HB2 HC2 HN2 k0 k1 k2
          obtain ⟨k0, k1, k2, _, _⟩ := HC3.out
          go_wp2_with fail
          refine (appendInt_any w.heap.size _ _ v _ HB3.out.size HO3.out HY2.out HV3.out).mono ?_
          rintro e w4 ⟨v4, rfl, ho4, hb4, hf4⟩
          have HO4 := Lib.hid ho4
          have HB4 := Lib.hid (HB3.out.grown hb4 HB3.out.size HO3.out.base)
          have HC4 := Lib.hid (HC3.out.grown hb4 HN3.out)
          clear ho4 hb4 hf4 HO3 HB3 HC3 HN3 k0 k1 k2
          obtain ⟨k0, k1, k2, _, _⟩ := HC4.out
          go_wp2
          go_roundw
          case rel => exact ⟨j + 1, t, _, by omega, by go_num, rfl, by omega, a3, HE2, HO4, HB4⟩
          case measure => simp [intOf]; omega
        · obtain rfl : j = k := by omega
          have hYX : Y = nums X := by
            rw [← hEq.out, List.drop_of_length_le (Nat.le_of_eq HL.out)]; simp [encS, nums]
          have ho3 := ho.out
          rw [hYX] at ho3
          have hcv3 := conv_ownB ho3
          rw [strOf_nums] at hcv3
          clear hYX ho3 hEq
          go_wp2
          go_ret2
          exact ⟨rfl, hbel.out⟩

end Go.Proofs.Ytimabgaobhfiaaa
