/-
  The walk of UtfConcatenation.
-/
import Derived.Test.YtcpldaanffjbjaaRefD
import Derived.Test.YtcpldaanffjbjaaPoints
import Derived.Test.YtcpldaanffjbjaaAppend
namespace Go.Proofs.Ytcpldaanffjbjaa.utfConcatenationW
open Go.RowKit

theorem refEncode_at (p : Option Addr) (cap n : Nat) (zs : List Int) (U : ByteArray) (er : Int) (w : World) (hr : IntsIn w p zs) (hs : zs.length ≤ maxLen) (hl : zs.length = n) (he : Hid (encodeS zs = (U, er))) :
    Calls Try.prog 13 #[.slice p n cap] w fun e w' => e = .returned (.tuple #[.string U, .int .i64 er]) ∧ Below w.heap.size w w' := by
  subst hl
  have := refEncode_any p cap zs w hr hs
  rw [he.out] at this
  exact this

theorem same_at (p q : Option Addr) (c d n m : Nat) (xs : List Int) (w : World) (hx : IntsIn w p xs) (hy : IntsIn w q xs) (hl : xs.length ≤ maxLen) (hn : xs.length = n) (hm : xs.length = m) :
    Calls Try.prog 18 #[.slice p n c, .slice q m d] w fun e w' => e = .returned (.bool true) ∧ Below w.heap.size w w' := by
  subst hn; subst hm
  have := same_any p q c d xs xs w hx hy hl hl
  rwa [show (xs == xs) = true by simp] at this

theorem back_facts (xs : List Int) (ha : allS xs = true) (hn : xs.length ≤ 200) :
    encodeS xs = (strOfNums (flat xs), 0) ∧ decodeS (strOfNums (flat xs)).data.toList = (xs, 0, 0) ∧ (strOfNums (flat xs)).size ≤ 800 := by
  have hf := flat_bd xs
  have hd := dec_flatU [] xs ha
  rw [List.append_nil, dec_zero [] rfl, List.append_nil] at hd
  refine ⟨by rw [encodeS, if_neg (by omega), if_pos ha], ?_, by rw [strOfNums_size]; omega⟩
  have hl : (flatU xs).length ≤ 800 := by
    rw [← strOfNums_flat]
    show (strOfNums (flat xs)).size ≤ 800
    rw [strOfNums_size]; omega
  rw [strOfNums_flat, decodeS, hd, if_neg (by omega), if_neg (by simp)]

theorem two_facts (xs ys : List Int) (hx : allS xs = true) (hy : allS ys = true) (hn : xs.length + ys.length ≤ 200) :
    decodeS (strOfNums (flat xs) ++ strOfNums (flat ys)).data.toList = (xs ++ ys, 0, 0) := by
  have e : flat xs ++ flat ys = flat (xs ++ ys) := by simp [flat]
  rw [str_append, e]
  exact (back_facts (xs ++ ys) (by simp only [allS, List.all_append, Bool.and_eq_true]; exact ⟨hx, hy⟩) (by simp; omega)).2.1

set_option maxRecDepth 100000 in
set_option maxHeartbeats 4000000 in
theorem walk (a0 : Option Addr) (len0 cap0 : Nat) (z0 : List Int) (a1 : Option Addr) (len1 cap1 : Nat) (z1 : List Int) (w : World) (w0 : IsRow .i64 w a0 len0 cap0 z0) (w1 : IsRow .i64 w a1 len1 cap1 z1) :
    Calls Try.prog 7 #[.slice a0 len0 cap0, .slice a1 len1 cap1] w fun e w' => e = .returned (.bool true) ∧ Below w.heap.size w w' := by
  obtain ⟨zs, rfl, hzl, hzs, _⟩ := w0.inn
  obtain ⟨us, rfl, hul, hus, _⟩ := w1.inn
  simp only [IntKind.bits] at hzl hul
  have hzl' : zs.length ≤ 17592186043904 := by omega
  have hul' : us.length ≤ 17592186043904 := by omega
  have HZ := Lib.hid hzs
  have HU := Lib.hid hus
  clear hzs hus w0 w1 hzl hul
  obtain ⟨i0, hi, hz0, hz1, hz2⟩ := info_parts Try.info3
  go_enter Try.func7, Try.ntmps7
  go_wp2_with fail
  refine (points_any _ _ zs _ HZ.out hzl').mono ?_
  rintro e w2 ⟨xs, p2, c2, rfl, hx10, hxa, hi2, hb2⟩
  obtain ⟨f1, f2, f3⟩ := back_facts xs hxa (by omega)
  obtain ⟨A, hA⟩ : ∃ A, strOfNums (flat xs) = A := ⟨_, rfl⟩
  rw [hA] at f1 f2 f3
  have F1 := Lib.hid f1
  have F2 := Lib.hid f2
  have HA := Lib.hid hA
  have HXA := Lib.hid hxa
  have HI2 := Lib.hid hi2
  have HB2 := Lib.hid hb2
  clear f1 f2 hA hxa hi2 hb2
  go_wp2_with fail
  refine (refEncode_at _ _ _ xs A 0 _ HI2.out (by unfold maxLen; omega) rfl F1).mono ?_
  rintro e w3 ⟨rfl, hb3⟩
  have HB3 := Lib.hid (HB2.out.trans (hb3.mono HB2.out.size))
  clear hb3 HI2 HB2
  go_wp2_with fail
  refine (points_any _ _ us _ (HU.out.below (HB3.out)) hul').mono ?_
  rintro e w4 ⟨ys, p4, c4, rfl, hy10, hya, hi4, hb4⟩
  obtain ⟨g1, g2, g3⟩ := back_facts ys hya (by omega)
  obtain ⟨B, hB⟩ : ∃ B, strOfNums (flat ys) = B := ⟨_, rfl⟩
  rw [hB] at g1 g2 g3
  have t1 := two_facts xs ys HXA.out hya (by omega)
  rw [HA.out, hB] at t1
  have T1 := Lib.hid t1
  have G1 := Lib.hid g1
  have G2 := Lib.hid g2
  have HI4 := Lib.hid hi4
  have HB4 := Lib.hid (HB3.out.trans (hb4.mono HB3.out.size))
  clear g1 g2 hB hya hi4 hb4 HB3 t1
  go_wp2_with fail
  refine (refEncode_at _ _ _ ys B 0 _ HI4.out (by unfold maxLen; omega) rfl G1).mono ?_
  rintro e w5 ⟨rfl, hb5⟩
  have HB5 := Lib.hid (HB4.out.trans (hb5.mono HB4.out.size))
  clear hb5 HI4 HB4
  go_wp2_with fail
  refine (decode_at A xs 0 0 _ (by unfold maxLen; omega) F2).mono ?_
  rintro e w6 ⟨p6, c6, rfl, hi6, hb6⟩
  have HI6 := Lib.hid hi6
  have HB6 := Lib.hid (HB5.out.trans (hb6.mono HB5.out.size))
  clear hb6 hi6 HB5
  go_wp2_with fail
  refine (decode_at B ys 0 0 _ (by unfold maxLen; omega) G2).mono ?_
  rintro e w7 ⟨p7, c7, rfl, hi7, hb7⟩
  have HI7 := Lib.hid hi7
  have HI67 := Lib.hid (HI6.out.below hb7)
  have HB7 := Lib.hid (HB6.out.trans (hb7.mono HB6.out.size))
  clear hb7 hi7 HB6 HI6
  have hAB : (A ++ B).size ≤ maxLen := by rw [ByteArray.size_append]; unfold maxLen; omega
  have HAB := Lib.hid hAB
  clear hAB
  go_wp2_with fail
  refine (decode_at (A ++ B) (xs ++ ys) 0 0 _ HAB.out T1).mono ?_
  rintro e w8 ⟨p8, c8, rfl, hi8, hb8⟩
  have HJ8 := Lib.hid hi8
  have HX8 := Lib.hid (HI67.out.below hb8)
  have HY8 := Lib.hid (HI7.out.below hb8)
  have HB8 := Lib.hid (HB7.out.trans (hb8.mono HB7.out.size))
  clear hb8 hi8 HB7 HI67 HI7
  go_wp2_with fail
  refine (awake_any _).mono ?_
  rintro e w9 ⟨rfl, hb9⟩
  have HJ9 := Lib.hid (HJ8.out.below hb9)
  have HX9 := Lib.hid (HX8.out.below hb9)
  have HY9 := Lib.hid (HY8.out.below hb9)
  have HB9 := Lib.hid (HB8.out.trans (hb9.mono HB8.out.size))
  clear hb9 HB8 HJ8 HX8 HY8
  go_wp2_with (first
    | (at_builtin; refine wpList_append_ints (.const (.slice none 0 0)) (.tmp 65) rfl rfl w9.heap.size (.slice none 0 0) [] rfl (Ints.nil _ _) _ _ _ xs rfl rfl HX9.out (by simp; omega) (Nat.le_refl _) ?_; intro v10 w10 ho10 hg10)
    | (at_builtin; refine wpList_append_ints (.tmp 66) (.tmp 67) rfl rfl w9.heap.size v10 ([] ++ xs) rfl ho10 _ _ _ ys rfl rfl (HY9.out.grownNone hg10) (by simp; omega) hg10.size ?_; intro v11 w11 ho11 hg11))
  rw [List.nil_append] at ho10 ho11
  have hJ11 : IntsIn w11 p8 (xs ++ ys) := HJ9.out.older (HJ9.out.grownNone hg10) hg11 (fun k hk => (ho10.lt k hk).1)
  have HB11 := Lib.hid ((HB9.out.grown hg10 HB9.out.size (by simp [Value.ownBlock])).grown hg11 (Nat.le_trans HB9.out.size hg10.size) (fun k hk => Nat.le_trans HB9.out.size (ho10.lt k hk).1))
  obtain ⟨p11, c11, rfl, hi11⟩ := ho11.inn
  refine (same_at _ _ _ _ _ _ (xs ++ ys) _ hJ11 hi11 (by simp; unfold maxLen; omega) (by simp) rfl).mono ?_
  rintro e w12 ⟨rfl, hb12⟩
  have HB12 := Lib.hid (HB11.out.trans (hb12.mono HB11.out.size))
  clear hb12 hJ11 hi11 ho10 hg10 hg11
  go_wp2
  go_ret
  exact ⟨rfl, HB12.out⟩

end Go.Proofs.Ytcpldaanffjbjaa.utfConcatenationW
