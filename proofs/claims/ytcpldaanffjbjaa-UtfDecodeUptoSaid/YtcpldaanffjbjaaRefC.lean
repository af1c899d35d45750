/-
  The contracts of the references decode, Decode, Valid, Encode.
-/
import Derived.Test.YtcpldaanffjbjaaRefB
import Derived.Test.YtcpldaanffjbjaaUtfE
namespace Go.Proofs.Ytcpldaanffjbjaa
open Go.RowKit

theorem first_at (s : ByteArray) (c z : Int) (w : World) (hs : s.size ≤ 140737488351232) (hf : Hid (firstS s.data.toList = (c, z))) :
    Calls Try.prog 34 #[.string s] w fun e w' => e = .returned (.tuple #[.int .i64 c, .int .i64 z]) ∧ Below w.heap.size w w' := by
  have := first_any s w hs
  rw [hf.out] at this
  exact this

theorem extract_end (s : ByteArray) (p : Nat) : (s.extract p s.size).data.toList = s.data.toList.drop p := by
  rw [ByteArray.data_extract, Array.toList_extract]
  exact List.take_of_length_le (by simp)

/-- A list and a number; new memory at most. -/
def RetInts1 (xs : List Int) (a : Int) (w : World) (e : Ending) (w' : World) : Prop :=
  ∃ v, e = .returned (.tuple #[v, .int .i64 a]) ∧ Ints w' w.heap.size v xs ∧ Below w.heap.size w w'

set_option maxHeartbeats 1000000 in
theorem refdecode_any (s : ByteArray) (w : World) (hs : s.size ≤ 1099511627776) :
    Calls Try.prog 29 #[.string s] w (RetInts1 (dec s.data.toList).1 (dec s.data.toList).2 w) := by
  obtain ⟨L, hL⟩ : ∃ L, s.data.toList = L := ⟨_, rfl⟩
  have hlen : L.length = s.size := by rw [← hL]; rfl
  have HL := Lib.hid hL
  rw [hL]
  have Hlen := Lib.hid hlen
  clear hL hlen
  obtain ⟨i0, hi, hz0, hz1, hz2⟩ := info_parts Try.info3
  go_enter Try.func29, Try.ntmps29
  go_wp2
  go_loopw [4, 5] (fun v i wr => ∃ p : Nat, ∃ xs : List Int, p ≤ s.size ∧ i = .int .i64 p ∧ Hid ((dec L).1 = xs ++ (dec (L.drop p)).1 ∧ (dec L).2 = p + (dec (L.drop p)).2) ∧ Ints wr w.heap.size v xs ∧ xs.length ≤ p ∧ Below w.heap.size w wr) (fun _ i _ => s.size - (intOf i).toNat)
  case atStart => exact ⟨0, [], Nat.zero_le _, rfl, by simp [Hid], Ints.nil _ _, Nat.zero_le _, Below.refl _ _⟩
  case round =>
    obtain ⟨p, xs, hp, rfl, hd, hown, hxs, hbel⟩ := hrel
    by_cases hlt : p < s.size
    · obtain ⟨c, z, hcz⟩ : ∃ c z, firstS (L.drop p) = (c, z) := ⟨_, _, rfl⟩
      have hz := firstS_bd (L.drop p)
      rw [hcz] at hz
      simp only [List.length_drop, Hlen.out] at hz
      obtain ⟨hlo, hhi⟩ := hz
      have hss : (s.extract p s.size).size ≤ 140737488351232 := by simp; omega
      have HSS := Lib.hid hss
      clear hss
      by_cases h0 : z = 0
      · have hz' : (z == 0) = true := by simp [h0]
        have HE : Hid (dec L = (xs, p)) := by
          have := hd.out
          rw [dec_zero (L.drop p) (by rw [hcz]; exact h0)] at this
          simp only [Nat.add_zero, List.append_nil] at this
          exact Prod.ext this.1 this.2
        rw [← HL.out, ← extract_end] at hcz
        have HC := Lib.hid hcz
        clear hcz h0
        go_wp2_with (go_at_call 34; refine (first_at _ c z _ HSS.out HC).mono ?_; rintro e w1 ⟨rfl, hb1⟩)
        go_ret2
        rw [HE.out]
        exact ⟨_, rfl, hown.below hb1, hbel.trans (hb1.mono hbel.size)⟩
      · have hz' : (z == 0) = false := by simp [h0]
        obtain ⟨m, rfl⟩ : ∃ m : Nat, z = ((m + 1 : Nat) : Int) := ⟨(z - 1).toNat, by omega⟩
        have HE : Hid ((dec L).1 = (xs ++ [c]) ++ (dec (L.drop (p + (m + 1)))).1 ∧ (dec L).2 = (p + (m + 1)) + (dec (L.drop (p + (m + 1)))).2) := by
          have := hd.out
          rw [dec_step (L.drop p) c m hcz, List.drop_drop] at this
          refine ⟨?_, ?_⟩
          · rw [this.1]; simp
          · simp only at this; omega
        rw [← HL.out, ← extract_end] at hcz
        have HC := Lib.hid hcz
        clear hcz h0
        go_wp2_with (first
          | (go_at_call 34; refine (first_at _ c _ _ HSS.out HC).mono ?_; rintro e w1 ⟨rfl, hb1⟩)
          | (at_builtin; refine wpList_append_own _ rfl _ _ 26 rfl w.heap.size 3 i0 (.int .i64 0) 1 8 Try.underlying26 hi hz0 hz1 hz2 rfl (by decide) _ _ _ rfl ((hown.below (by assumption)).alloc _) ⟨_, 0, none⟩ 1 1 [.int .i64 c] rfl rfl (cell_one_new _ _ _) ?c2 ?c3 ?c4 ?c5 ?_))
        case c2 => intro u hu; simp at hu; subst hu; rfl
        case c3 => unfold maxLen; omega
        case c4 => omega
        case c5 => have := hbel.size; have := hb1.size; simp; omega
        intro v' w2 hown2 hg2 _
        have hB1 := hbel.trans (hb1.mono hbel.size)
        have hB2 : Below w.heap.size w w2 := (hB1.alloc hB1.size _).grown hg2 (by have := hB1.size; simp; omega) (fun k hk => (hown.lt k hk).1)
        have hI : Ints w2 w.heap.size v' (xs ++ [c]) := by unfold Ints; simpa using hown2
        clear hown2 hg2 hB1
        go_wp2
        go_roundw
        case rel => exact ⟨p + (m + 1), xs ++ [c], by omega, by go_num, HE, hI, by simp; omega, hB2⟩
        case measure => simp [intOf]; omega
    · obtain rfl : p = s.size := by omega
      have HE : Hid (dec L = (xs, s.size)) := by
        have := hd.out
        rw [List.drop_of_length_le (by rw [Hlen.out]; exact Nat.le_refl _), dec_zero [] rfl] at this
        simp only [List.append_nil, Nat.add_zero] at this
        exact Prod.ext this.1 this.2
      go_wp2
      go_ret2
      rw [HE.out]
      exact ⟨_, rfl, hown, hbel⟩

theorem refdecode_at (s : ByteArray) (xs : List Int) (a : Nat) (w : World) (hs : s.size ≤ 1099511627776) (h : Hid (dec s.data.toList = (xs, a))) :
    Calls Try.prog 29 #[.string s] w (RetInts1 xs a w) := by
  have := refdecode_any s w hs
  rw [h.out] at this
  exact this

set_option maxHeartbeats 400000 in
theorem refValid_any (s : ByteArray) (b : Bool) (w : World) (hs : s.size ≤ 1099511627776) (h : Hid (((dec s.data.toList).2 == s.size) = b)) :
    Calls Try.prog 22 #[.string s] w fun e w' => e = .returned (.bool b) ∧ Below w.heap.size w w' := by
  obtain ⟨xs, a, hd⟩ : ∃ xs a, dec s.data.toList = (xs, a) := ⟨_, _, rfl⟩
  have hb := dec_bd _ s.data.toList (Nat.le_refl _)
  have hl : s.data.toList.length = s.size := rfl
  have h' := h.out
  rw [hd] at h' hb
  have HD := Lib.hid hd
  clear hd h hl
  have e : ((a : Int) == (s.size : Int)) = b := by rw [← h', Bool.eq_iff_iff]; simp; omega
  have HE := Lib.hid e
  clear h' e hb
  go_enter Try.func22, Try.ntmps22
  go_wp2_with (go_at_call 29; refine (refdecode_at s xs a _ hs HD).mono ?_; rintro e w1 ⟨v, rfl, hi1, hb1⟩)
  go_ret
  exact ⟨congrArg (fun x => Ending.returned (.bool x)) HE.out, hb1⟩

set_option maxHeartbeats 400000 in
theorem refDecode_any (s : ByteArray) (w : World) (hs : s.size ≤ 1099511627776) :
    Calls Try.prog 21 #[.string s] w (RetInts2 (decodeS s.data.toList) w) := by
  have hl : s.data.toList.length = s.size := rfl
  by_cases hbig : 4096 < s.size
  · have HE : Hid (decodeS s.data.toList = ([], 0, 7)) := by rw [Hid, decodeS, if_pos (by omega)]
    clear hl
    go_enter Try.func21, Try.ntmps21
    go_wp2
    go_ret3
    rw [HE.out]
    exact ⟨_, rfl, Ints.nil _ _, Below.refl _ _⟩
  obtain ⟨xs, a, hd⟩ : ∃ xs a, dec s.data.toList = (xs, a) := ⟨_, _, rfl⟩
  have hb := dec_bd _ s.data.toList (Nat.le_refl _)
  rw [hd] at hb
  simp only at hb
  have HD := Lib.hid hd
  by_cases hlt : a < s.size
  · have HE : Hid (decodeS s.data.toList = ([], (a : Int), 9)) := by rw [Hid, decodeS, if_neg (by omega), hd, if_pos (by omega)]
    clear hd hl hb
    go_enter Try.func21, Try.ntmps21
    go_wp2_with (go_at_call 29; refine (refdecode_at s xs a _ hs HD).mono ?_; rintro e w1 ⟨v, rfl, hi1, hb1⟩)
    go_ret3
    rw [HE.out]
    exact ⟨_, rfl, Ints.nil _ _, hb1⟩
  · have HE : Hid (decodeS s.data.toList = (xs, 0, 0)) := by rw [Hid, decodeS, if_neg (by omega), hd, if_neg (by simp only; omega)]
    clear hd hl hb
    go_enter Try.func21, Try.ntmps21
    go_wp2_with (go_at_call 29; refine (refdecode_at s xs a _ hs HD).mono ?_; rintro e w1 ⟨v, rfl, hi1, hb1⟩)
    go_ret3
    rw [HE.out]
    exact ⟨_, rfl, hi1, hb1⟩

end Go.Proofs.Ytcpldaanffjbjaa
