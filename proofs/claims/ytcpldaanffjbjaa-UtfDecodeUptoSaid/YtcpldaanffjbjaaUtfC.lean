/-
  The contracts of utf.Valid and utf.Decode.
-/
import Derived.Test.YtcpldaanffjbjaaUtfB
import Derived.Test.YtcpldaanffjbjaaOwn
namespace Go.Proofs.Ytcpldaanffjbjaa
open Go.RowKit

theorem scalarAt_at (s : ByteArray) (at' : Nat) (c z : Int) (w : World) (hs : s.size ≤ maxLen) (h : at' < s.size) (hf : Hid (firstS (s.data.toList.drop at') = (c, z))) :
    Calls Try.prog 25 #[.string s, .int .i64 at'] w fun e w' => e = .returned (.tuple #[.int .i64 c, .int .i64 z]) ∧ Below w.heap.size w w' := by
  have := scalarAt_any s at' w hs h
  rw [hf.out] at this
  exact this

set_option maxHeartbeats 1000000 in
theorem valid_any (s : ByteArray) (w : World) (hs : s.size ≤ maxLen) :
    Calls Try.prog 19 #[.string s] w fun e w' => e = .returned (.bool ((dec s.data.toList).2 == s.size)) ∧ Below w.heap.size w w' := by
  have hs' := hs
  unfold maxLen at hs
  obtain ⟨L, hL⟩ : ∃ L, s.data.toList = L := ⟨_, rfl⟩
  have hlen : L.length = s.size := by rw [← hL]; rfl
  rw [hL]
  have HL := Lib.hid hL
  have Hlen := Lib.hid hlen
  clear hL hlen
  go_enter Try.func19, Try.ntmps19
  go_wp2
  go_loopw [3] (fun i wr => ∃ p : Nat, p ≤ s.size ∧ i = .int .i64 p ∧ Hid ((dec L).2 = p + (dec (L.drop p)).2) ∧ Below w.heap.size w wr) (fun i _ => s.size - (intOf i).toNat)
  case atStart => exact ⟨0, Nat.zero_le _, rfl, by simp [Hid], Below.refl _ _⟩
  case round =>
    obtain ⟨p, hp, rfl, hd, hbel⟩ := hrel
    by_cases hlt : p < s.size
    · obtain ⟨c, z, hcz⟩ : ∃ c z, firstS (L.drop p) = (c, z) := ⟨_, _, rfl⟩
      have hz := firstS_bd (L.drop p)
      rw [hcz] at hz
      simp only [List.length_drop, Hlen.out] at hz
      obtain ⟨hz0, hz1⟩ := hz
      by_cases h0 : z = 0
      · have hz' : (z == 0) = true := by simp [h0]
        have HE : Hid (((dec L).2 == s.size) = false) := by
          have := hd.out
          rw [dec_zero (L.drop p) (by rw [hcz]; exact h0)] at this
          simp [Hid]; simp at this; omega
        rw [← HL.out] at hcz
        have HC := Lib.hid hcz
        clear hcz h0
        go_wp2_with (go_at_call 25; refine (scalarAt_at s p c z _ hs' hlt HC).mono ?_; rintro e w1 ⟨rfl, hb1⟩)
        go_ret
        rw [HE.out]
        exact ⟨rfl, hbel.trans (hb1.mono hbel.size)⟩
      · have hz' : (z == 0) = false := by simp [h0]
        obtain ⟨m, rfl⟩ : ∃ m : Nat, z = ((m + 1 : Nat) : Int) := ⟨(z - 1).toNat, by omega⟩
        have HE : Hid ((dec L).2 = (p + (m + 1)) + (dec (L.drop (p + (m + 1)))).2) := by
          have := hd.out
          rw [dec_step (L.drop p) c m hcz, List.drop_drop] at this
          simp only [Hid]; simp only at this; omega
        rw [← HL.out] at hcz
        have HC := Lib.hid hcz
        clear hcz h0
        go_wp2_with (go_at_call 25; refine (scalarAt_at s p c _ _ hs' hlt HC).mono ?_; rintro e w1 ⟨rfl, hb1⟩)
        go_roundw
        case rel => exact ⟨p + (m + 1), by omega, by go_num, HE, hbel.trans (hb1.mono hbel.size)⟩
        case measure => simp [intOf]; omega
    · obtain rfl : p = s.size := by omega
      have HE : Hid (((dec L).2 == s.size) = true) := by
        have := hd.out
        rw [List.drop_of_length_le (by rw [Hlen.out]; exact Nat.le_refl _)] at this
        simp [Hid, this, dec_zero [] rfl]
      go_wp2
      go_ret
      rw [HE.out]
      exact ⟨rfl, hbel⟩

/-- What Decode answers: the list, the position, the error. -/
def decodeS (L : List UInt8) : List Int × Int × Int :=
  if 4096 < L.length then ([], 0, 7) else if (dec L).2 < L.length then ([], ((dec L).2 : Int), 9) else ((dec L).1, 0, 0)

/-- A list, a position, an error; new memory at most. -/
def RetInts2 (r : List Int × Int × Int) (w : World) (e : Ending) (w' : World) : Prop :=
  ∃ v, e = .returned (.tuple #[v, .int .i64 r.2.1, .int .i64 r.2.2]) ∧ Ints w' w.heap.size v r.1 ∧ Below w.heap.size w w'

set_option maxHeartbeats 1000000 in
theorem decode_any (s : ByteArray) (w : World) (hs : s.size ≤ maxLen) :
    Calls Try.prog 17 #[.string s] w (RetInts2 (decodeS s.data.toList) w) := by
  have hs' := hs
  unfold maxLen at hs
  obtain ⟨L, hL⟩ : ∃ L, s.data.toList = L := ⟨_, rfl⟩
  have hlen : L.length = s.size := by rw [← hL]; rfl
  rw [hL]
  by_cases hbig : 4096 < s.size
  · have HE : Hid (decodeS L = ([], 0, 7)) := by simp [Hid, decodeS, hlen, hbig]
    clear hlen hL
    go_enter Try.func17, Try.ntmps17
    go_wp2
    go_ret3
    rw [HE.out]
    exact ⟨_, rfl, Ints.nil _ _, Below.refl _ _⟩
  have HL := Lib.hid hL
  have Hlen := Lib.hid hlen
  clear hL hlen
  obtain ⟨i0, hi, hz0, hz1, hz2⟩ := info_parts Try.info3
  go_enter Try.func17, Try.ntmps17
  go_wp2_with (at_make; refine wpList_make_own _ rfl _ _ 26 rfl w.heap.size 3 i0 (.int .i64 0) 1 Try.underlying26 hi hz0 hz1 .i64 .i64 _ s.size rfl rfl rfl (by rw [hz2]; omega) hs' (Nat.le_refl _) ?_; intro w0 hown0 hgrow0)
  go_loopw [5, 6] (fun v i wr => ∃ p : Nat, ∃ xs : List Int, p ≤ s.size ∧ i = .int .i64 p ∧ Hid ((dec L).1 = xs ++ (dec (L.drop p)).1 ∧ (dec L).2 = p + (dec (L.drop p)).2) ∧ Ints wr w.heap.size v xs ∧ xs.length ≤ p ∧ Below w.heap.size w wr) (fun _ i _ => s.size - (intOf i).toNat)
  case atStart => exact ⟨0, [], Nat.zero_le _, rfl, by simp [Hid], hown0, Nat.zero_le _, (Below.refl _ _).grown hgrow0 (Nat.le_refl _) (by simp)⟩
  case round =>
    obtain ⟨p, xs, hp, rfl, hd, hown, hxs, hbel⟩ := hrel
    clear hown0 hgrow0
    by_cases hlt : p < s.size
    · obtain ⟨c, z, hcz⟩ : ∃ c z, firstS (L.drop p) = (c, z) := ⟨_, _, rfl⟩
      have hz := firstS_bd (L.drop p)
      rw [hcz] at hz
      simp only [List.length_drop, Hlen.out] at hz
      obtain ⟨hlo, hhi⟩ := hz
      by_cases h0 : z = 0
      · have hz' : (z == 0) = true := by simp [h0]
        have HE : Hid (decodeS L = ([], (p : Int), 9)) := by
          have := hd.out.2
          rw [dec_zero (L.drop p) (by rw [hcz]; exact h0)] at this
          simp only [Nat.add_zero] at this
          have hl := Hlen.out
          rw [Hid, decodeS, if_neg (by omega), if_pos (by omega), this]
        rw [← HL.out] at hcz
        have HC := Lib.hid hcz
        clear hcz h0
        go_wp2_with (go_at_call 25; refine (scalarAt_at s p c z _ hs' hlt HC).mono ?_; rintro e w1 ⟨rfl, hb1⟩)
        go_ret3
        rw [HE.out]
        exact ⟨_, rfl, Ints.nil _ _, hbel.trans (hb1.mono hbel.size)⟩
      · have hz' : (z == 0) = false := by simp [h0]
        obtain ⟨m, rfl⟩ : ∃ m : Nat, z = ((m + 1 : Nat) : Int) := ⟨(z - 1).toNat, by omega⟩
        have HE : Hid ((dec L).1 = (xs ++ [c]) ++ (dec (L.drop (p + (m + 1)))).1 ∧ (dec L).2 = (p + (m + 1)) + (dec (L.drop (p + (m + 1)))).2) := by
          have := hd.out
          rw [dec_step (L.drop p) c m hcz, List.drop_drop] at this
          refine ⟨?_, ?_⟩
          · rw [this.1]; simp
          · simp only at this; omega
        rw [← HL.out] at hcz
        have HC := Lib.hid hcz
        clear hcz h0
        go_wp2_with (first
          | (go_at_call 25; refine (scalarAt_at s p c _ _ hs' hlt HC).mono ?_; rintro e w1 ⟨rfl, hb1⟩)
          | (at_builtin; refine wpList_append_own _ rfl _ _ 26 rfl w.heap.size 3 i0 (.int .i64 0) 1 8 Try.underlying26 hi hz0 hz1 hz2 rfl (by decide) _ _ _ rfl ((hown.below (by assumption)).alloc _) ⟨_, 0, none⟩ 1 1 [.int .i64 c] rfl rfl (cell_one_new _ _ _) ?c2 ?c3 ?c4 ?c5 ?_))
        case c2 => intro u hu; simp at hu; subst hu; rfl
        case c3 => unfold maxLen; omega
        case c4 => omega
        case c5 => have := hbel.size; have := hb1.size; simp; omega
        intro v' w2 hown2 hg2 _
        have hB1 := hbel.trans (hb1.mono hbel.size)
        have hB2 : Below w.heap.size w w2 := (hB1.alloc hB1.size _).grown hg2 (by have := hB1.size; simp; omega) (fun k hk => (hown.lt k hk).1)
        have hI : Ints w2 w.heap.size v' (xs ++ [c]) := by unfold Ints; simpa using hown2
        clear hown2 hg2 hB1
        go_wp2
        go_roundw
        case rel => exact ⟨p + (m + 1), xs ++ [c], by omega, by go_num, HE, hI, by simp; omega, hB2⟩
        case measure => simp [intOf]; omega
    · obtain rfl : p = s.size := by omega
      have HE : Hid (decodeS L = (xs, 0, 0)) := by
        have := hd.out
        rw [List.drop_of_length_le (by rw [Hlen.out]; exact Nat.le_refl _), dec_zero [] rfl] at this
        simp only [List.append_nil, Nat.add_zero] at this
        have hl := Hlen.out
        rw [Hid, decodeS, if_neg (by omega), if_neg (by omega), this.1]
      go_wp2
      go_ret3
      rw [HE.out]
      exact ⟨_, rfl, hown, hbel⟩

end Go.Proofs.Ytcpldaanffjbjaa
