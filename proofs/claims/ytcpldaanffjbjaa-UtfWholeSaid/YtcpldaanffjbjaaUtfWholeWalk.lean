/-
  The walk of UtfWhole.
-/
import Derived.Test.YtcpldaanffjbjaaUtfE
namespace Go.Proofs.Ytcpldaanffjbjaa.utfWholeW
open Go.RowKit

theorem conv_one (w : World) (x : Int) : (convert 22 9 (.slice (some ⟨w.heap.size, 0, none⟩) 1 1)).run Try.prog (w.alloc (.cells #[.int .u8 x] 5)) = .ok (.string (strOfNums [x])) (w.alloc (.cells #[.int .u8 x] 5)) := by
  refine run_convert_bytes_arg _ _ _ Try.underlying22 Try.underlying5 w.heap.size 0 1 1 [x] rfl ?_ _ Try.underlying9
  intro i hi
  obtain rfl : i = 0 := by omega
  rw [World.cell?_alloc_new]
  rfl

set_option maxRecDepth 100000 in
set_option maxHeartbeats 4000000 in
theorem walk (s : ByteArray) (a1 : Option Addr) (len1 cap1 : Nat) (z1 : List Int) (w : World) (hs : s.size ≤ 140737488351232) (w1 : IsRow .u8 w a1 len1 cap1 z1) :
    Calls Try.prog 6 #[.string s, .slice a1 len1 cap1] w fun e w' => e = .returned (.bool true) ∧ Below w.heap.size w w' := by
  obtain ⟨xs, rfl, hxl, hxs, _⟩ := w1.inn
  simp only [IntKind.bits] at hxl
  have HX := Lib.hid hxs
  clear hxs w1
  go_enter Try.func6, Try.ntmps6
  go_wp2
  go_loopw [5, 6] (fun t i wr => ∃ k : Nat, ∃ T : ByteArray, k ≤ 20 ∧ i = .int .i64 k ∧ t = .string T ∧ T.size ≤ 140737488351232 + k ∧ Below w.heap.size w wr) (fun _ i _ => 20 - (intOf i).toNat)
  case atStart => exact ⟨0, s, by omega, rfl, rfl, by omega, Below.refl _ _⟩
  case round =>
    obtain ⟨k, T, hk, rfl, rfl, hT, hbel⟩ := hrel
    by_cases hlt : k < xs.length ∧ k < 20
    · obtain ⟨hlt1, hlt2⟩ := hlt
      obtain ⟨b, off, rfl, hck⟩ := (HX.out.below hbel) k hlt1
      obtain ⟨x, hx⟩ : ∃ x, xs.getD k 0 = x := ⟨_, rfl⟩
      rw [hx] at hck
      have hcv := conv_one wr x
      obtain ⟨X, hX⟩ : ∃ X, strOfNums [x] = X := ⟨_, rfl⟩
      have hX1 : X.size ≤ 1 := by rw [← hX, strOfNums_size]; simp
      rw [hX] at hcv
      have hsz : (T ++ X).size ≤ 140737488351232 + (k + 1) := by rw [ByteArray.size_append]; omega
      have HS := Lib.hid hsz
      clear hX hx hsz
      go_wp2
      go_roundw
      case rel => exact ⟨k + 1, T ++ X, by omega, by go_num, rfl, HS.out, hbel.alloc hbel.size _⟩
      case measure => simp [intOf]; omega
    · have hout : xs.length ≤ k ∨ (k < xs.length ∧ 20 ≤ k) := by omega
      clear hlt
      obtain ⟨L, hL⟩ : ∃ L, T.data.toList = L := ⟨_, rfl⟩
      have HB := Lib.hid hbel
      have hB := hbel.size
      clear hbel
      by_cases hbig : 4096 < T.size
      · rcases hout with ho | ⟨ho, ho2⟩
        all_goals
          go_wp2_with (go_at_call 9; refine (awake_any _).mono ?_; rintro e w2 ⟨rfl, hb2⟩)
          go_ret
          exact ⟨rfl, HB.out.trans (hb2.mono hB)⟩
      by_cases hall : (dec T.data.toList).2 = T.size
      · obtain ⟨hd, he⟩ := whole_ok T hall (by omega)
        have hv : ((dec T.data.toList).2 == T.size) = true := by simp [hall]
        have HL : Hid ((dec T.data.toList).1.length ≤ maxLen) := by have := dec_bd _ T.data.toList (Nat.le_refl _); have hl : T.data.toList.length = T.size := rfl; unfold Hid maxLen; omega
        have HD := Lib.hid hd
        have HE := Lib.hid he
        have HV := Lib.hid hv
        have hTm : T.size ≤ maxLen := by unfold maxLen; omega
        clear hd he hv hall
        generalize (dec T.data.toList).1 = ys at *
        rcases hout with ho | ⟨ho, ho2⟩
        all_goals
          go_wp2_with fail
          refine (decode_at T ys 0 0 _ hTm HD).mono ?_
          rintro e w2 ⟨p, cp, rfl, hi2, hb2⟩
          have HB2 := Lib.hid (HB.out.trans (hb2.mono hB))
          clear hb2
          go_wp2_with fail
          refine (encode_at _ _ _ ys T 0 _ hi2 HL.out rfl HE).mono ?_
          rintro e w3 ⟨rfl, hb3⟩
          have HB3 := Lib.hid (HB2.out.trans (hb3.mono HB2.out.size))
          clear hb3 hi2
          go_wp2_with fail
          refine (awake_any _).mono ?_
          rintro e w4 ⟨rfl, hb4⟩
          have HB4 := Lib.hid (HB3.out.trans (hb4.mono HB3.out.size))
          clear hb4
          go_wp2_with fail
          refine (valid_at T true _ hTm HV).mono ?_
          rintro e w5 ⟨rfl, hb5⟩
          have HB5 := Lib.hid (HB4.out.trans (hb5.mono HB4.out.size))
          clear hb5
          go_wp2
          go_ret
          exact ⟨rfl, HB5.out⟩
      · obtain ⟨m, hm⟩ : ∃ m, (dec T.data.toList).2 = m := ⟨_, rfl⟩
        have hb := dec_bd _ T.data.toList (Nat.le_refl _)
        have hl : T.data.toList.length = T.size := rfl
        have hmT : m < T.size := by omega
        obtain ⟨hd, hd2, he⟩ := whole_front T m hm hmT (by omega)
        have hv : ((dec T.data.toList).2 == T.size) = false := by simp [hall]
        have HL : Hid ((dec T.data.toList).1.length ≤ maxLen) := by unfold Hid maxLen; omega
        have HD := Lib.hid hd
        have HD2 := Lib.hid hd2
        have HE := Lib.hid he
        have HV := Lib.hid hv
        have hTm : T.size ≤ maxLen := by unfold maxLen; omega
        have hPm : (T.extract 0 m).size ≤ maxLen := by simp; omega
        have HP := Lib.hid hPm
        have hms : (m : Int) < (T.size : Int) := by omega
        have hms2 : decide ((T.size : Int) ≤ (m : Int)) = false := by simp; omega
        have hms3 : decide ((m : Int) < 0) = false := by simp
        clear hd hd2 he hv hall hb hm hPm hl
        generalize (dec T.data.toList).1 = ys at *
        rcases hout with ho | ⟨ho, ho2⟩
        all_goals
          go_wp2_with fail
          refine (decode_at T [] m 9 _ hTm HD).mono ?_
          rintro e w2 ⟨p, cp, rfl, hi2, hb2⟩
          have HB2 := Lib.hid (HB.out.trans (hb2.mono hB))
          clear hb2 hi2
          go_wp2_with fail
          refine (valid_at T false _ hTm HV).mono ?_
          rintro e w5 ⟨rfl, hb5⟩
          have HB5 := Lib.hid (HB2.out.trans (hb5.mono HB2.out.size))
          clear hb5
          go_wp2_with fail
          refine (decode_at _ ys 0 0 _ HP.out HD2).mono ?_
          rintro e w6 ⟨p, cp, rfl, hi6, hb6⟩
          have HB6 := Lib.hid (HB5.out.trans (hb6.mono HB5.out.size))
          clear hb6
          go_wp2_with fail
          refine (encode_at _ _ _ ys _ 0 _ hi6 HL.out rfl HE).mono ?_
          rintro e w3 ⟨rfl, hb3⟩
          have HB3 := Lib.hid (HB6.out.trans (hb3.mono HB6.out.size))
          clear hb3 hi6
          go_wp2_with fail
          refine (awake_any _).mono ?_
          rintro e w4 ⟨rfl, hb4⟩
          have HB4 := Lib.hid (HB3.out.trans (hb4.mono HB3.out.size))
          clear hb4
          go_wp2
          go_ret
          exact ⟨rfl, HB4.out⟩

end Go.Proofs.Ytcpldaanffjbjaa.utfWholeW
