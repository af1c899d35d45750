/-
  The walk of UtfDecode.
-/
import Derived.Test.YtcpldaanffjbjaaRefC
import Derived.OpenShut
namespace Go.Proofs.Ytcpldaanffjbjaa.utfDecodeW
open Go.RowKit

theorem refDecode_at (s : ByteArray) (xs : List Int) (a er : Int) (w : World) (hs : s.size ≤ 1099511627776) (hE : Hid (decodeS s.data.toList = (xs, a, er))) :
    Calls Try.prog 21 #[.string s] w (RetList xs a er w) := by
  refine (refDecode_any s w hs).mono ?_
  rintro e w' ⟨v, rfl, hI, hb⟩
  rw [hE.out] at *
  obtain ⟨p, cap, rfl, hin⟩ := hI.inn
  exact ⟨p, cap, rfl, hin, hb⟩

theorem same_at (p q : Option Addr) (c d n m : Nat) (xs : List Int) (w : World) (hx : IntsIn w p xs) (hy : IntsIn w q xs) (hl : xs.length ≤ maxLen) (hn : xs.length = n) (hm : xs.length = m) :
    Calls Try.prog 18 #[.slice p n c, .slice q m d] w fun e w' => e = .returned (.bool true) ∧ Below w.heap.size w w' := by
  subst hn; subst hm
  have := same_any p q c d xs xs w hx hy hl hl
  rwa [show (xs == xs) = true by simp] at this

theorem decodeS_len (s : ByteArray) (xs : List Int) (a er : Int) (h : decodeS s.data.toList = (xs, a, er)) (hs : s.size ≤ 1099511627776) : xs.length ≤ maxLen := by
  have hl : s.data.toList.length = s.size := rfl
  have hb := dec_bd _ s.data.toList (Nat.le_refl _)
  unfold decodeS at h
  unfold maxLen
  split at h
  · cases h; simp
  · split at h
    · cases h; simp
    · cases h; omega

set_option maxRecDepth 100000 in
set_option maxHeartbeats 4000000 in
theorem agrees_any (s : ByteArray) (w : World) (hs : s.size ≤ 1099511627776) :
    Calls Try.prog 10 #[.string s] w fun e w' => e = .returned (.bool true) ∧ Below w.heap.size w w' := by
  obtain ⟨xs, a, er, hd⟩ : ∃ xs a er, decodeS s.data.toList = (xs, a, er) := ⟨_, _, _, rfl⟩
  have HL := Lib.hid (decodeS_len s xs a er hd hs)
  obtain ⟨b, hv⟩ : ∃ b, ((dec s.data.toList).2 == s.size) = b := ⟨_, rfl⟩
  have HD := Lib.hid hd
  have HV := Lib.hid hv
  have hm : s.size ≤ maxLen := by unfold maxLen; omega
  clear hd hv
  go_enter Try.func10, Try.ntmps10
  go_wp2_with fail
  refine (decode_at s xs a er _ hm HD).mono ?_
  rintro e w1 ⟨p1, c1, rfl, hi1, hb1⟩
  have HB1 := Lib.hid hb1
  clear hb1
  go_wp2_with fail
  refine (refDecode_at s xs a er _ hs HD).mono ?_
  rintro e w2 ⟨p2, c2, rfl, hi2, hb2⟩
  have HI1 := Lib.hid (hi1.below hb2)
  have HI2 := Lib.hid hi2
  have HB2 := Lib.hid (HB1.out.trans (hb2.mono HB1.out.size))
  clear hb2 HB1 hi1 hi2
  go_wp2_with fail
  refine (same_at _ _ _ _ _ _ xs _ HI1.out HI2.out HL.out rfl rfl).mono ?_
  rintro e w3 ⟨rfl, hb3⟩
  have HB3 := Lib.hid (HB2.out.trans (hb3.mono HB2.out.size))
  clear hb3 HB2 HI1 HI2
  go_wp2_with fail
  refine (valid_at s b _ hm HV).mono ?_
  rintro e w4 ⟨rfl, hb4⟩
  have HB4 := Lib.hid (HB3.out.trans (hb4.mono HB3.out.size))
  clear hb4 HB3
  go_wp2_with fail
  refine (refValid_any s b _ hs HV).mono ?_
  rintro e w5 ⟨rfl, hb5⟩
  go_wp2
  go_ret
  exact ⟨by simp, HB4.out.trans (hb5.mono HB4.out.size)⟩

set_option maxRecDepth 100000 in
set_option maxHeartbeats 4000000 in
theorem walk (a0 : ByteArray) (a1 : Option Addr) (len1 cap1 : Nat) (z1 : List Int) (w : World) (w0 : a0.size ≤ 1048576) (w1 : IsRow .u8 w a1 len1 cap1 z1) :
    Calls Try.prog 3 #[.string a0, .slice a1 len1 cap1] w fun e w' => e = .returned (.bool true) ∧ Below w.heap.size w w' := by
  obtain ⟨xs, rfl, hxl, hxs, hwf⟩ := w1.inn
  simp only [IntKind.bits] at hxl
  have HX := Lib.hid hxs
  have HW := Lib.hid hwf
  clear hxs w1 hwf
  go_enter Try.func3, Try.ntmps3
  go_wp2
  go_loopw [6, 7] (fun t i wr => ∃ k : Nat, ∃ T : ByteArray, k ≤ 40 ∧ i = .int .i64 k ∧ t = .string T ∧ T.size ≤ k ∧ Below w.heap.size w wr) (fun _ i _ => 40 - (intOf i).toNat)
  case atStart => exact ⟨0, ByteArray.empty, by omega, rfl, rfl, by simp, Below.refl _ _⟩
  case round =>
    obtain ⟨k, T, hk, rfl, rfl, hT, hbel⟩ := hrel
    by_cases hlt : k < xs.length ∧ k < 40
    · obtain ⟨hlt1, hlt2⟩ := hlt
      obtain ⟨b, off, rfl, hck⟩ := (HX.out.below hbel) k hlt1
      have hx := bounds_u8 (HW.out _ (List.getElem_mem hlt1))
      obtain ⟨x, hxx⟩ : ∃ x, xs.getD k 0 = x := ⟨_, rfl⟩
      have hxe : x = xs[k] := by rw [← hxx]; simp [hlt1]
      rw [← hxe] at hx
      obtain ⟨hx0, hx1⟩ := hx
      clear hxe
      rw [hxx] at hck
      obtain ⟨q, hq⟩ : ∃ q : Nat, x % 22 = (q : Int) := ⟨(x % 22).toNat, by omega⟩
      have hq1 : q < 22 := by omega
      obtain ⟨X, hX⟩ : ∃ X, (ByteArray.mk #[97, 127, 128, 129, 143, 144, 159, 160, 191, 192, 193, 194, 223, 224, 225, 237, 239, 240, 241, 244, 245, 255]).extract q (q + 1) = X := ⟨_, rfl⟩
      have hXs : X.size ≤ 1 := by rw [← hX, ByteArray.size_extract]; omega
      have hsz : (T ++ X).size ≤ k + 1 := by rw [ByteArray.size_append]; omega
      have HS := Lib.hid hsz
      clear hsz hxx
      go_wp2
      go_roundw
      case rel => exact ⟨k + 1, T ++ X, by omega, by go_num, rfl, HS.out, hbel⟩
      case measure => simp [intOf]; omega
    · have hout : xs.length ≤ k ∨ (k < xs.length ∧ 40 ≤ k) := by omega
      clear hlt
      have HB := Lib.hid hbel
      have hB := hbel.size
      clear hbel
      rcases hout with ho | ⟨ho, ho2⟩
      all_goals
        go_wp2_with fail
        refine (awake_any _).mono ?_
        rintro e w2 ⟨rfl, hb2⟩
        have HB2 := Lib.hid (HB.out.trans (hb2.mono hB))
        clear hb2
        go_wp2_with fail
        refine (agrees_any a0 _ (by omega)).mono ?_
        rintro e w3 ⟨rfl, hb3⟩
        have HB3 := Lib.hid (HB2.out.trans (hb3.mono HB2.out.size))
        clear hb3
        go_wp2_with fail
        refine (agrees_any T _ (by omega)).mono ?_
        rintro e w4 ⟨rfl, hb4⟩
        go_wp2
        go_ret
        exact ⟨rfl, HB3.out.trans (hb4.mono HB3.out.size)⟩

end Go.Proofs.Ytcpldaanffjbjaa.utfDecodeW
