/-
  The contract of the reference Encode.
-/
import Derived.Test.YtcpldaanffjbjaaRefA
import Derived.Test.YtcpldaanffjbjaaUtfE
namespace Go.Proofs.Ytcpldaanffjbjaa
open Go.RowKit

theorem one_str (c : Int) (X : ByteArray) (w : World) (hc : Hid (lenS c ≠ 0)) (h : Hid (strOfNums (encB c) = X)) :
    Calls Try.prog 24 #[.int .i64 c] w fun e w' => e = .returned (.string X) ∧ Below w.heap.size w w' := h.out ▸ one_any c w hc.out

theorem str_append (xs ys : List Int) : strOfNums xs ++ strOfNums ys = strOfNums (xs ++ ys) := by
  apply str_ext
  rw [ByteArray.data_append, Array.toList_append, strOfNums_data, strOfNums_data, strOfNums_data, List.map_append]

set_option maxHeartbeats 1000000 in
theorem refEncode_any (p : Option Addr) (cap : Nat) (zs : List Int) (w : World) (hr : IntsIn w p zs) (hs : zs.length ≤ maxLen) :
    Calls Try.prog 13 #[.slice p zs.length cap] w fun e w' => e = .returned (.tuple #[.string (encodeS zs).1, .int .i64 (encodeS zs).2]) ∧ Below w.heap.size w w' := by
  unfold maxLen at hs
  by_cases hbig : 4096 < zs.length
  · have HE : Hid (encodeS zs = (ByteArray.empty, 7)) := by simp [Hid, encodeS, hbig]
    clear hr
    go_enter Try.func13, Try.ntmps13
    go_wp2
    go_ret2
    rw [HE.out]
    exact ⟨rfl, Below.refl _ _⟩
  have HR := Lib.hid hr
  clear hr
  go_enter Try.func13, Try.ntmps13
  go_wp2
  go_loopw [4, 12] (fun v i wr => ∃ k : Nat, ∃ T : ByteArray, k ≤ zs.length ∧ i = .int .i64 k ∧ v = .string T ∧ Hid (allS (zs.take k) = true ∧ T = strOfNums (flat (zs.take k))) ∧ T.size ≤ 4 * k ∧ Below w.heap.size w wr) (fun _ i _ => zs.length - (intOf i).toNat)
  case atStart => exact ⟨0, ByteArray.empty, Nat.zero_le _, rfl, rfl, ⟨rfl, rfl⟩, by simp, Below.refl _ _⟩
  case round =>
    obtain ⟨k, T, hk, rfl, rfl, hT, hTs, hbel⟩ := hrel
    by_cases hlt : k < zs.length
    · obtain ⟨b, off, rfl, hck⟩ := (HR.out.below hbel) k hlt
      obtain ⟨x, hx⟩ : ∃ x, zs.getD k 0 = x := ⟨_, rfl⟩
      have hts := take_snoc_int zs k hlt
      rw [hx] at hck hts
      by_cases h0 : lenS x = 0
      · have HZ : Hid ((!(lenS x == 0)) = false) := by simp [Hid, h0]
        have HE : Hid (encodeS zs = (ByteArray.empty, 3)) := by
          have : allS zs = false := by
            rw [← List.take_append_drop (k + 1) zs, hts]
            simp [allS, h0]
          rw [Hid, encodeS, if_neg hbig, this]
          rfl
        clear hts hx h0
        go_wp2_with (go_at_call 16; refine (scalar_at _ _ _ HZ).mono ?_; rintro e w1 ⟨rfl, rfl⟩)
        go_ret2
        rw [HE.out]
        exact ⟨rfl, hbel⟩
      · have HZ : Hid ((!(lenS x == 0)) = true) := by simp [Hid, h0]
        have HN := Lib.hid h0
        obtain ⟨X, hX⟩ : ∃ X, strOfNums (encB x) = X := ⟨_, rfl⟩
        have hXs : X.size ≤ 4 := by rw [← hX, strOfNums_size]; exact encB_bd x
        have hsz : (T ++ X).size ≤ 4 * (k + 1) := by rw [ByteArray.size_append]; omega
        have HS := Lib.hid hsz
        have HA : Hid (allS (zs.take (k + 1)) = true ∧ T ++ X = strOfNums (flat (zs.take (k + 1)))) := by
          rw [hts]
          refine ⟨by simp [allS_snoc, hT.out.1, h0], ?_⟩
          rw [hT.out.2, ← hX, str_append, flat_snoc]
        have HX := Lib.hid hX
        clear hts hx h0 hX hsz
        go_wp2_with (first
          | (go_at_call 16; refine (scalar_at _ _ _ HZ).mono ?_; rintro e w1 ⟨rfl, rfl⟩)
          | (go_at_call 24; refine (one_str _ X _ HN HX).mono ?_; rintro e w1 ⟨rfl, hb1⟩))
        go_roundw
        case rel => exact ⟨k + 1, T ++ X, by omega, by go_num, rfl, HA, HS.out, hbel.trans (hb1.mono hbel.size)⟩
        case measure => simp [intOf]; omega
    · obtain rfl : k = zs.length := by omega
      have HE : Hid (encodeS zs = (T, 0)) := by
        have := hT.out
        rw [List.take_length] at this
        rw [Hid, encodeS, if_neg hbig, if_pos this.1, this.2]
      go_wp2
      go_ret2
      rw [HE.out]
      exact ⟨rfl, hbel⟩

end Go.Proofs.Ytcpldaanffjbjaa
