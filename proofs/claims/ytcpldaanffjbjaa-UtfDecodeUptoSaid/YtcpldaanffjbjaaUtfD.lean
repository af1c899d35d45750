/-
  The contract of utf.Encode.
-/
import Derived.Test.YtcpldaanffjbjaaUtfB
import Derived.Test.YtcpldaanffjbjaaOwn
namespace Go.Proofs.Ytcpldaanffjbjaa
open Go.RowKit

theorem length_at (c z : Int) (w : World) (h : Hid (lenS c = z)) :
    Calls Try.prog 14 #[.int .i64 c] w fun e w' => e = .returned (.int .i64 z) ∧ w = w' := h.out ▸ length_any c w

set_option maxHeartbeats 1000000 in
theorem encode_any (p : Option Addr) (cap : Nat) (zs : List Int) (w : World) (hr : IntsIn w p zs) (hs : zs.length ≤ maxLen) :
    Calls Try.prog 12 #[.slice p zs.length cap] w fun e w' => e = .returned (.tuple #[.string (encodeS zs).1, .int .i64 (encodeS zs).2]) ∧ Below w.heap.size w w' := by
  unfold maxLen at hs
  by_cases hbig : 4096 < zs.length
  · have HE : Hid (encodeS zs = (ByteArray.empty, 7)) := by simp [Hid, encodeS, hbig]
    clear hr
    go_enter Try.func12, Try.ntmps12
    go_wp2
    go_ret2
    rw [HE.out]
    exact ⟨rfl, Below.refl _ _⟩
  have HR := Lib.hid hr
  clear hr
  obtain ⟨i0, hi, hz0, hz1, hz2⟩ := info_parts Try.info5
  go_enter Try.func12, Try.ntmps12
  go_wp2_with (at_make; refine wpList_make_own _ rfl _ _ 22 rfl w.heap.size 5 i0 (.int .u8 0) 1 Try.underlying22 hi hz0 hz1 .i64 .i64 _ zs.length rfl rfl rfl (by rw [hz2]; omega) (by unfold maxLen; omega) (Nat.le_refl _) ?_; intro w0 hown0 hgrow0)
  go_loopw [4, 15] (fun v i wr => ∃ k : Nat, k ≤ zs.length ∧ i = .int .i64 k ∧ Hid (allS (zs.take k) = true) ∧ wr.ownsRow w.heap.size 5 1 v (flat (zs.take k)).length ((flat (zs.take k)).map (.int .u8)) ∧ Below w.heap.size w wr) (fun _ i _ => zs.length - (intOf i).toNat)
  case atStart => exact ⟨0, Nat.zero_le _, rfl, rfl, hown0, (Below.refl _ _).grown hgrow0 (Nat.le_refl _) (by simp)⟩
  case round =>
    obtain ⟨k, hk, rfl, ha, hown, hbel⟩ := hrel
    clear hown0 hgrow0
    by_cases hlt : k < zs.length
    · obtain ⟨b, off, rfl, hck⟩ := (HR.out.below hbel) k hlt
      obtain ⟨x, hx⟩ : ∃ x, zs.getD k 0 = x := ⟨_, rfl⟩
      have hts := take_snoc_int zs k hlt
      rw [hx] at hck hts
      have hfb := flat_bd (zs.take k)
      have htk : (zs.take k).length ≤ k := List.length_take_le _ _
      obtain ⟨z, hz⟩ : ∃ z, lenS x = z := ⟨_, rfl⟩
      have HZ := Lib.hid hz
      by_cases h0 : z = 0
      · have h0' : (z == 0) = true := by simp [h0]
        have HE : Hid (encodeS zs = (ByteArray.empty, 3)) := by
          have : allS zs = false := by
            rw [← List.take_append_drop (k + 1) zs, hts]
            simp [allS, hz, h0]
          rw [Hid, encodeS, if_neg hbig, this]
          rfl
        clear hts hx hz h0
        go_wp2_with (go_at_call 14; refine (length_at _ z _ HZ).mono ?_; rintro e w1 ⟨rfl, rfl⟩)
        go_ret2
        rw [HE.out]
        exact ⟨rfl, hbel⟩
      · have h0' : (z == 0) = false := by simp [h0]
        have HA : Hid (allS (zs.take (k + 1)) = true) := by rw [hts]; simp [Hid, allS_snoc, ha.out, hz, h0]
        have HF : Hid (flat (zs.take (k + 1)) = flat (zs.take k) ++ encB x) := by rw [hts, flat_snoc]; rfl
        have hn0 : lenS x ≠ 0 := by rw [hz]; exact h0
        have HN := Lib.hid hn0
        clear hts hx hz h0 hn0
        go_wp2_with (first
          | (go_at_call 14; refine (length_at _ z _ HZ).mono ?_; rintro e w1 ⟨rfl, rfl⟩)
          | (go_at_call 23; refine (appendScalar_any w.heap.size _ _ _ _ _ hbel.size hown (by omega) HN.out).mono ?_; rintro e w1 ⟨v', rfl, hown1, hb1⟩))
        go_roundw
        case rel => exact ⟨k + 1, by omega, by go_num, HA, by rw [HF.out]; simpa using hown1, hbel.trans hb1⟩
        case measure => simp [intOf]; omega
    · obtain rfl : k = zs.length := by omega
      rw [List.take_length] at hown ha
      have hcv := conv_own hown
      have HE : Hid (encodeS zs = (strOfNums (flat zs), 0)) := by
        rw [Hid, encodeS, if_neg hbig, if_pos ha.out]
      go_wp2
      go_ret2
      rw [HE.out]
      exact ⟨rfl, hbel⟩

end Go.Proofs.Ytcpldaanffjbjaa
