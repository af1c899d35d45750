/-
  UtfLimits: strings with more than MaxBytes bytes, and lists with more than MaxRunes elements, are refused.
  No condition: every input that the statement speaks of.
-/
import Derived.Test.YtcpldaanffjbjaaAwake
import Derived.Test.YtcpldaanffjbjaaPick
import Derived.Test.YtcpldaanffjbjaaUtfD
namespace Go.Proofs.Ytcpldaanffjbjaa.utfLimitsW
open Go.RowKit

theorem pick_at (v n q : Int) (w : World) (h0 : 1 ≤ n) (h1 : n ≤ 1073741824) (hq : Hid (pickS v n = q)) :
    Calls Try.prog 11 #[.int .i64 v, .int .i64 n] w fun e w' => e = .returned (.int .i64 q) ∧ w = w' := hq.out ▸ pick_any v n w h0 h1

/-- The bytes of the slice when k letters have been stored. -/
def lettersTo (n k : Nat) : List Int := List.replicate k 97 ++ List.replicate (n - k) 0

theorem lettersTo_set (n k : Nat) (h : k < n) : (lettersTo n k).set k 97 = lettersTo n (k + 1) := by
  unfold lettersTo
  rw [List.set_append, if_neg (by simp)]
  simp only [List.length_replicate, Nat.sub_self]
  obtain ⟨m, hm⟩ : ∃ m, n - k = m + 1 := ⟨n - k - 1, by omega⟩
  rw [hm, List.replicate_succ, List.set_cons_zero, show n - (k + 1) = m by omega, List.replicate_succ']
  simp

theorem lettersTo_at (n k : Nat) (h : k < n) : ((lettersTo n k).map (Value.int .u8))[k]? = some (.int .u8 0) := by
  unfold lettersTo
  obtain ⟨m, hm⟩ : ∃ m, n - k = m + 1 := ⟨n - k - 1, by omega⟩
  rw [hm, List.getElem?_map, List.getElem?_append_right (by simp)]
  simp

theorem letters_str (n : Nat) : (strOfNums (lettersTo n n)).data.toList = List.replicate n (97 : UInt8) := by
  rw [strOfNums_data]
  simp [lettersTo]

theorem decode_letters (n : Nat) : decodeS (strOfNums (lettersTo n n)).data.toList = if 4096 < n then ([], 0, 7) else (List.replicate n 97, 0, 0) := by
  rw [letters_str, decodeS, dec_letters]
  simp

theorem encode_zeros (n : Nat) : (encodeS (List.replicate n 0)).2 = if 4096 < n then 7 else 0 := by
  unfold encodeS
  rw [allS_zeros]
  simp only [List.length_replicate]
  split <;> rfl

theorem encode_at (p : Option Addr) (cap n : Nat) (zs : List Int) (er : Int) (w : World) (hr : IntsIn w p zs) (hs : zs.length ≤ maxLen) (hl : zs.length = n) (he : Hid ((encodeS zs).2 = er)) :
    Calls Try.prog 12 #[.slice p n cap] w fun e w' => e = .returned (.tuple #[.string (encodeS zs).1, .int .i64 er]) ∧ Below w.heap.size w w' := by
  subst hl
  rw [← he.out]
  exact encode_any p cap zs w hr hs

theorem valid_at (s : ByteArray) (w : World) (hs : s.size ≤ maxLen) (h : Hid ((dec s.data.toList).2 = s.size)) :
    Calls Try.prog 19 #[.string s] w fun e w' => e = .returned (.bool true) ∧ Below w.heap.size w w' := by
  have := valid_any s w hs
  rw [h.out] at this
  simpa using this

theorem dec_letters_size (n : Nat) : (dec (strOfNums (lettersTo n n)).data.toList).2 = (strOfNums (lettersTo n n)).size := by
  rw [letters_str, dec_letters, strOfNums_size]; simp [lettersTo]

theorem zeros_in {w : World} {g n : Nat} {B : Nat} (h : w.ownsRow B 3 1 (.slice (some ⟨g, 0, none⟩) n n) n (madeCells (Value.int .i64 0).cells (n * 1)).toList) : IntsIn w (some ⟨g, 0, none⟩) (List.replicate n 0) := by
  intro k hk
  refine ⟨g, 0, rfl, ?_⟩
  have hk' : k < n := by simpa using hk
  rw [Nat.zero_add, h.cellAt k (by omega)]
  have e : (madeCells (Value.int .i64 0).cells (n * 1)).toList = List.replicate (n * 1) (.int .i64 0) := toList_madeCells_one _ _
  rw [e]
  simp [hk']

set_option maxRecDepth 100000 in
set_option maxHeartbeats 2000000 in
theorem walk_small (a q : Int) (n : Nat) (w : World) (hq : Hid (pickS a 3 = q)) (hq0 : 0 ≤ q) (hq1 : q ≤ 1) (hnq : Hid (4096 + (q - 1) = n)) (hn5 : n ≤ 4097) (hn : n ≤ 4096) :
    Calls Try.prog 8 #[.int .i64 a] w fun e w' => e = .returned (.bool true) ∧ Below w.heap.size w w' := by
  obtain ⟨i0, hi, hz0, hz1, hz2⟩ := info_parts Try.info5
  obtain ⟨i1, hi', hz0', hz1', hz2'⟩ := info_parts Try.info3
  have hD := decode_letters n
  rw [if_neg (by omega)] at hD
  have HD := Lib.hid hD
  have hE := encode_zeros n
  rw [if_neg (by omega)] at hE
  have HE := Lib.hid hE
  clear hD hE
  have hmk : (4096 + (q - 1)).toNat = n := by have := hnq.out; omega
  have HM := Lib.hid hmk
  clear hmk
  go_enter Try.func8, Try.ntmps8
  go_wp2_with (first
    | (go_at_call 11; refine (pick_at _ _ q _ (by omega) (by omega) hq).mono ?_; rintro e w' ⟨rfl, rfl⟩)
    | (at_make; refine wpList_make_full _ rfl _ _ 22 rfl w.heap.size 5 i0 (.int .u8 0) 1 Try.underlying22 hi hz0 hz1 .i64 .i64 _ _ n rfl rfl hnq.out hnq.out (by rw [hz2]; omega) (by unfold maxLen; omega) (Nat.le_refl _) ?_; intro w0 hown0 hgrow0))
  go_loopw [19] (fun i wr => ∃ k : Nat, k ≤ n ∧ i = .int .i64 k ∧ wr.ownsRow w.heap.size 5 1 (.slice (some ⟨w.heap.size, 0, none⟩) n n) n ((lettersTo n k).map (.int .u8)) ∧ Below w.heap.size w wr) (fun i _ => n - (intOf i).toNat)
  case atStart =>
    refine ⟨0, Nat.zero_le _, rfl, ?_, (Below.refl _ _).grown hgrow0 (Nat.le_refl _) (by simp)⟩
    have e : (madeCells (Value.int .u8 0).cells (n * 1)).toList = List.replicate (n * 1) (.int .u8 0) := toList_madeCells_one _ _
    rw [e] at hown0
    simpa [lettersTo] using hown0
  case round =>
    obtain ⟨k, hk, rfl, hown, hbel⟩ := hrel
    clear hown0 hgrow0
    by_cases hlt : k < n
    · have hc := hown.cellAt k (by omega)
      rw [lettersTo_at n k hlt] at hc
      have hf := hown.frozenAt k
      have hst := (hown.stored k (.int .u8 97)).1
      rw [← List.map_set, lettersTo_set n k hlt] at hst
      have HS := Lib.hid hst
      have hb2 : Below w.heap.size w (wr.setCell ⟨w.heap.size, k, none⟩ (.int .u8 97)) := hbel.setCell (Nat.le_refl _) _
      have HB := Lib.hid hb2
      clear hst hb2 hown hbel
      go_wp2
      go_roundw
      case rel => exact ⟨k + 1, by omega, by go_num, HS.out, HB.out⟩
      case measure => simp [intOf]; omega
    · obtain rfl : k = n := by omega
      have hcv := conv_own hown
      have HO := Lib.hid hown
      have HB := Lib.hid hbel
      clear hown hbel
      go_wp2_with fail
      refine (decode_at _ _ _ _ _ (by rw [strOfNums_size]; simp [lettersTo]; unfold maxLen; omega) HD).mono ?_
      rintro e w1 ⟨p1, c1, rfl, hi1, hb1⟩
      clear hcv hi1
      have hB1 := HB.out.trans (hb1.mono HB.out.size)
      have hO1 := ownsRow_below HO.out hb1
      have HB1 := Lib.hid hB1
      have HO1 := Lib.hid hO1
      clear hB1 hO1 HB HO hb1
      go_wp2_with (at_make; refine wpList_make_full _ rfl _ _ 26 rfl w.heap.size 3 i1 (.int .i64 0) 1 Try.underlying26 hi' hz0' hz1' .i64 .i64 _ _ k rfl rfl hnq.out hnq.out (by rw [hz2']; omega) (by unfold maxLen; omega) HB1.out.size ?_; intro w2 hown2 hgrow2)
      have hz := zeros_in hown2
      have hB2 := HB1.out.grown hgrow2 HB1.out.size (by simp)
      have hO2 := HO1.out.kept hgrow2 (by simp [Value.ownBlock])
      have HB2 := Lib.hid hB2
      have HO2 := Lib.hid hO2
      clear hown2 hgrow2 hB2 hO2 HB1 HO1
      go_wp2_with fail
      refine (encode_at _ _ _ _ _ _ hz (by simp; unfold maxLen; omega) (by simp) HE).mono ?_
      rintro e w3 ⟨rfl, hb3⟩
      clear hz
      have hB3 := HB2.out.trans (hb3.mono HB2.out.size)
      have hO3 := ownsRow_below HO2.out hb3
      have HB3 := Lib.hid hB3
      have HO3 := Lib.hid hO3
      clear hB3 hO3 HB2 HO2 hb3
      go_wp2_with fail
      refine (awake_any _).mono ?_
      rintro e w4 ⟨rfl, hb4⟩
      have hB4 := HB3.out.trans (hb4.mono HB3.out.size)
      have hcv := conv_own (ownsRow_below HO3.out hb4)
      have HB4 := Lib.hid hB4
      clear hB4 HB3 HO3 hb4
      go_wp2_with fail
      refine (valid_at _ _ (by rw [strOfNums_size]; simp [lettersTo]; unfold maxLen; omega) (dec_letters_size _)).mono ?_
      rintro e w5 ⟨rfl, hb5⟩
      go_wp2
      go_ret
      exact ⟨by simp; omega, HB4.out.trans (hb5.mono HB4.out.size)⟩

set_option maxRecDepth 100000 in
set_option maxHeartbeats 2000000 in
theorem walk_big (a q : Int) (n : Nat) (w : World) (hq : Hid (pickS a 3 = q)) (hq0 : 2 ≤ q) (hq1 : q ≤ 2) (hnq : Hid (4096 + (q - 1) = n)) (hn5 : n ≤ 4097) (hn : 4096 < n) :
    Calls Try.prog 8 #[.int .i64 a] w fun e w' => e = .returned (.bool true) ∧ Below w.heap.size w w' := by
  obtain ⟨i0, hi, hz0, hz1, hz2⟩ := info_parts Try.info5
  obtain ⟨i1, hi', hz0', hz1', hz2'⟩ := info_parts Try.info3
  have hD := decode_letters n
  rw [if_pos hn] at hD
  have HD := Lib.hid hD
  have hE := encode_zeros n
  rw [if_pos hn] at hE
  have HE := Lib.hid hE
  clear hD hE
  have hmk : (4096 + (q - 1)).toNat = n := by have := hnq.out; omega
  have HM := Lib.hid hmk
  clear hmk
  go_enter Try.func8, Try.ntmps8
  go_wp2_with (first
    | (go_at_call 11; refine (pick_at _ _ q _ (by omega) (by omega) hq).mono ?_; rintro e w' ⟨rfl, rfl⟩)
    | (at_make; refine wpList_make_full _ rfl _ _ 22 rfl w.heap.size 5 i0 (.int .u8 0) 1 Try.underlying22 hi hz0 hz1 .i64 .i64 _ _ n rfl rfl hnq.out hnq.out (by rw [hz2]; omega) (by unfold maxLen; omega) (Nat.le_refl _) ?_; intro w0 hown0 hgrow0))
  go_loopw [19] (fun i wr => ∃ k : Nat, k ≤ n ∧ i = .int .i64 k ∧ wr.ownsRow w.heap.size 5 1 (.slice (some ⟨w.heap.size, 0, none⟩) n n) n ((lettersTo n k).map (.int .u8)) ∧ Below w.heap.size w wr) (fun i _ => n - (intOf i).toNat)
  case atStart =>
    refine ⟨0, Nat.zero_le _, rfl, ?_, (Below.refl _ _).grown hgrow0 (Nat.le_refl _) (by simp)⟩
    have e : (madeCells (Value.int .u8 0).cells (n * 1)).toList = List.replicate (n * 1) (.int .u8 0) := toList_madeCells_one _ _
    rw [e] at hown0
    simpa [lettersTo] using hown0
  case round =>
    obtain ⟨k, hk, rfl, hown, hbel⟩ := hrel
    clear hown0 hgrow0
    by_cases hlt : k < n
    · have hc := hown.cellAt k (by omega)
      rw [lettersTo_at n k hlt] at hc
      have hf := hown.frozenAt k
      have hst := (hown.stored k (.int .u8 97)).1
      rw [← List.map_set, lettersTo_set n k hlt] at hst
      have HS := Lib.hid hst
      have hb2 : Below w.heap.size w (wr.setCell ⟨w.heap.size, k, none⟩ (.int .u8 97)) := hbel.setCell (Nat.le_refl _) _
      have HB := Lib.hid hb2
      clear hst hb2 hown hbel
      go_wp2
      go_roundw
      case rel => exact ⟨k + 1, by omega, by go_num, HS.out, HB.out⟩
      case measure => simp [intOf]; omega
    · obtain rfl : k = n := by omega
      have hcv := conv_own hown
      have HO := Lib.hid hown
      have HB := Lib.hid hbel
      clear hown hbel
      go_wp2_with fail
      refine (decode_at _ _ _ _ _ (by rw [strOfNums_size]; simp [lettersTo]; unfold maxLen; omega) HD).mono ?_
      rintro e w1 ⟨p1, c1, rfl, hi1, hb1⟩
      clear hcv hi1
      have hB1 := HB.out.trans (hb1.mono HB.out.size)
      have hO1 := ownsRow_below HO.out hb1
      have HB1 := Lib.hid hB1
      have HO1 := Lib.hid hO1
      clear hB1 hO1 HB HO hb1
      go_wp2_with (at_make; refine wpList_make_full _ rfl _ _ 26 rfl w.heap.size 3 i1 (.int .i64 0) 1 Try.underlying26 hi' hz0' hz1' .i64 .i64 _ _ k rfl rfl hnq.out hnq.out (by rw [hz2']; omega) (by unfold maxLen; omega) HB1.out.size ?_; intro w2 hown2 hgrow2)
      have hz := zeros_in hown2
      have hB2 := HB1.out.grown hgrow2 HB1.out.size (by simp)
      have hO2 := HO1.out.kept hgrow2 (by simp [Value.ownBlock])
      have HB2 := Lib.hid hB2
      have HO2 := Lib.hid hO2
      clear hown2 hgrow2 hB2 hO2 HB1 HO1
      go_wp2_with fail
      refine (encode_at _ _ _ _ _ _ hz (by simp; unfold maxLen; omega) (by simp) HE).mono ?_
      rintro e w3 ⟨rfl, hb3⟩
      clear hz
      have hB3 := HB2.out.trans (hb3.mono HB2.out.size)
      have hO3 := ownsRow_below HO2.out hb3
      have HB3 := Lib.hid hB3
      have HO3 := Lib.hid hO3
      clear hB3 hO3 HB2 HO2 hb3
      go_wp2_with fail
      refine (awake_any _).mono ?_
      rintro e w4 ⟨rfl, hb4⟩
      have hB4 := HB3.out.trans (hb4.mono HB3.out.size)
      have hcv := conv_own (ownsRow_below HO3.out hb4)
      have HB4 := Lib.hid hB4
      clear hB4 HB3 HO3 hb4
      go_wp2_with fail
      refine (valid_at _ _ (by rw [strOfNums_size]; simp [lettersTo]; unfold maxLen; omega) (dec_letters_size _)).mono ?_
      rintro e w5 ⟨rfl, hb5⟩
      go_wp2
      go_ret
      exact ⟨by simp; omega, HB4.out.trans (hb5.mono HB4.out.size)⟩

theorem walk (a : Int) (_ : (Lit.int .i64 a).wf = true) (w : World) :
    Calls Try.prog 8 #[.int .i64 a] w fun e w' => e = .returned (.bool true) ∧ Below w.heap.size w w' := by
  obtain ⟨h0, h1⟩ := pickS_bd a 3 (by omega)
  obtain ⟨q, hq⟩ : ∃ q, pickS a 3 = q := ⟨_, rfl⟩
  rw [hq] at h0 h1
  obtain ⟨n, hn⟩ : ∃ n : Nat, 4096 + (q - 1) = n := ⟨(4096 + (q - 1)).toNat, by omega⟩
  by_cases h : q ≤ 1
  · exact walk_small a q n w hq h0 h hn (by omega) (by omega)
  · exact walk_big a q n w hq (by omega) (by omega) hn (by omega) (by omega)

end Go.Proofs.Ytcpldaanffjbjaa.utfLimitsW
